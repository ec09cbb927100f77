/- Contracts of ext's notBelow and notAbove. -/
import Derived.Test.YtkhmocbfkpbpfaaGreatDoorExt6b
namespace Go.Proofs.YtkhmocbfkpbpfaaGreatDoor
open Go.RowKit Go.Sort

set_option maxHeartbeats 8000000 in
set_option maxRecDepth 100000 in
theorem notBelow_any (x : Sl) (A Bs C : List Int) (w : World) (h : DomsIn w x [A, Bs, C]) (hT : TabZ w) :
    Calls Tryz.prog 116 #[.slice x.A x.n x.c] w fun e w' => (∃ y : Sl, e = .returned (.slice y.A y.n y.c) ∧ DomsIn w' y [A.filter fun u => decide ((thirdX 9 A Bs C).head?.getD 0 ≤ u), Bs.filter fun u => decide ((thirdX 9 A Bs C).head?.getD 0 ≤ u), thirdX 9 A Bs C]) ∧ Below w.heap.size w w' := by
  have hxn : x.n = 3 := h.len
  have CB := Lib.hid (betweenX_any 172 (enters_of Tryz.func172 (by kernel_rfl) rfl) (selV 9) (fun a b W => lessX_any a b W) x A Bs C w h hT)
  have hH := h
  obtain ⟨gx, ox, d0, ex, p0, p1, p2, hD0⟩ := h.at_ 0 (by omega)
  obtain ⟨g', o', d1, ex', q0, q1, q2, hD1⟩ := h.at_ 1 (by omega)
  have eg1 : gx = g' ∧ ox = o' := by rw [ex] at ex'; injection ex' with ex'; injection ex' with e1 e2 _; exact ⟨e1, e2⟩
  obtain ⟨rfl, rfl⟩ := eg1
  have hD0' : IsDom w d0.val A := hD0
  have hD1' : IsDom w d1.val Bs := hD1
  have HD0 := Lib.hid hD0'
  have HD1 := Lib.hid hD1'
  have HT := Lib.hid hT
  rw [Nat.zero_mul, Nat.add_zero] at p0 p1 p2
  rw [Nat.one_mul] at q0 q1 q2
  have HP := Lib.hid (And.intro p0 (And.intro p1 (And.intro p2 (And.intro q0 (And.intro q1 q2)))))
  rw [ex, hxn] at CB ⊢
  obtain ⟨T3, hT3⟩ : ∃ T3, T3 = thirdX 9 A Bs C := ⟨_, rfl⟩
  rw [← hT3]
  have CB : Hid (Calls Tryz.prog 174 #[.func (.func 172) #[] #[], .slice (some ⟨gx, ox, none⟩) 3 x.c] w fun e w' => (∃ d : Dv, e = .returned d.val ∧ IsDom w' d.val T3) ∧ Below w.heap.size w w') := Lib.hid (by rw [hT3]; exact CB.out)
  obtain ⟨m, hm⟩ : ∃ m, m = T3.head?.getD 0 := ⟨_, rfl⟩
  have hX : ∀ L : List Int, (L.filter fun u => decide (T3.head?.getD 0 ≤ u)) = L.filter fun u => decide (m ≤ u) := fun L => by rw [hm]
  rw [hX, hX]
  obtain ⟨X1, hX1⟩ : ∃ X1, X1 = A.filter fun u => decide (m ≤ u) := ⟨_, rfl⟩
  obtain ⟨X2, hX2⟩ : ∃ X2, X2 = Bs.filter fun u => decide (m ≤ u) := ⟨_, rfl⟩
  rw [← hX1, ← hX2]
  have HX1 := Lib.hid hX1
  have HX2 := Lib.hid hX2
  have HMM := Lib.hid hm
  clear hX1 hX2 hX hm hT3 h hH hT hD0 hD1 hD0' hD1' ex' ex hxn p0 p1 p2 q0 q1 q2
  go_enter Tryz.func116, Tryz.ntmps116
  go_wp2_with fail
  refine CB.out.mono ?_
  rintro e w1 ⟨⟨d3, rfl, h3⟩, b1⟩
  obtain ⟨w2, hw2⟩ : ∃ w2, w1.alloc (.cells #[.int .i64 d3.s, .slice d3.A d3.n d3.c, .int .i64 d3.z] 53) = w2 := ⟨_, rfl⟩
  have v3 : VarD w2 w1.heap.size d3 T3 := hw2 ▸ VarD.new h3
  have b12 : Below w1.heap.size w1 w2 := hw2 ▸ below1 w1 _
  have B2 := Lib.hid (b1.trans (b12.mono b1.size))
  obtain ⟨g3, hg3⟩ : ∃ g3, g3 = w1.heap.size := ⟨_, rfl⟩
  rw [← hg3] at v3
  have V3 := Lib.hid v3
  clear CB h3 b1 b12 v3
  go_upto_region 2 with fail
  clear hw2
  try rw [← hg3]
  clear hg3
  have HS : Hid (∀ W, Below w2.heap.size w2 W → Below w2.heap.size w2 W ∧ W.cell? ⟨gx, ox, none⟩ = some (.int .i64 d0.s) ∧ W.cell? ⟨gx, ox + 1, none⟩ = some (.slice d0.A d0.n d0.c) ∧ W.cell? ⟨gx, ox + 2, none⟩ = some (.int .i64 d0.z) ∧ W.cell? ⟨g3, 0, none⟩ = some (.int .i64 d3.s) ∧ W.cell? ⟨g3, 1, none⟩ = some (.slice d3.A d3.n d3.c) ∧ W.cell? ⟨g3, 2, none⟩ = some (.int .i64 d3.z)) := Lib.hid (fun W hW => by
    obtain ⟨p0, p1, p2, q0, q1, q2⟩ := HP.out
    have v := V3.out.below hW
    have k : ∀ {a : Addr} {u : Value}, w.cell? a = some u → W.cell? a = some u := fun h => ((B2.out.trans (hW.mono B2.out.size)).cell (World.block_lt_of_cell? _ _ h)).trans h
    exact ⟨hW, k p0, k p1, k p2, v.c0, v.c1, v.c2⟩)
  have CM : Hid (∀ W, Below w2.heap.size w2 W → Calls Tryz.prog 176 #[.agg #[.int .i64 d3.s, .slice d3.A d3.n d3.c, .int .i64 d3.z]] W fun e w' => e = .returned (.int .i64 m) ∧ Below W.heap.size W w') := Lib.hid (fun W hW => by rw [HMM.out]; exact D.min_dom d3.val T3 W (V3.out.below hW).2 (HT.out.below (B2.out.trans (hW.mono B2.out.size))))
  obtain ⟨ch1, hch1⟩ : ∃ ch1, ch1 = D.chg A X1 := ⟨_, rfl⟩
  obtain ⟨ch2, hch2⟩ : ∃ ch2, ch2 = D.chg Bs X2 := ⟨_, rfl⟩
  have CX : Hid (∀ W, Below w2.heap.size w2 W → Calls Tryz.prog 175 #[.agg #[.int .i64 d0.s, .slice d0.A d0.n d0.c, .int .i64 d0.z], .int .i64 m] W fun e w' => (∃ d : Dv, e = .returned (.tuple #[.agg #[.int .i64 d.s, .slice d.A d.n d.c, .int .i64 d.z], .int .i64 ch1]) ∧ IsDom w' d.val X1) ∧ Below W.heap.size W w') := Lib.hid (fun W hW => by rw [hch1, HX1.out]; exact gives_dv (D.least_dom d0.val A m W (HD0.out.below (B2.out.trans (hW.mono B2.out.size))) (HT.out.below (B2.out.trans (hW.mono B2.out.size)))))
  have CX2 : Hid (∀ W, Below w2.heap.size w2 W → Calls Tryz.prog 175 #[.agg #[.int .i64 d1.s, .slice d1.A d1.n d1.c, .int .i64 d1.z], .int .i64 m] W fun e w' => (∃ d : Dv, e = .returned (.tuple #[.agg #[.int .i64 d.s, .slice d.A d.n d.c, .int .i64 d.z], .int .i64 ch2]) ∧ IsDom w' d.val X2) ∧ Below W.heap.size W w') := Lib.hid (fun W hW => by rw [hch2, HX2.out]; exact gives_dv (D.least_dom d1.val Bs m W (HD1.out.below (B2.out.trans (hW.mono B2.out.size))) (HT.out.below (B2.out.trans (hW.mono B2.out.size)))))
  clear HX1 HX2 hch1 hch2 HMM HD0 HD1
  go_cut [4, 5] (fun p ch wx => ∃ (g1 : Nat) (dv : Dv), p = .pointer (some ⟨g1, 0, none⟩) ∧ ch = .int .i64 ch1 ∧ Hid (VarD wx g1 dv X1) ∧ Hid (Below w2.heap.size w2 wx))
  case first =>
    have hS := HS.out w2.drew (Below.refl _ _).drew
    go_region_held3 (fun W => Below w2.heap.size w2 W ∧ W.cell? ⟨gx, ox, none⟩ = some (.int .i64 d0.s) ∧ W.cell? ⟨gx, ox + 1, none⟩ = some (.slice d0.A d0.n d0.c) ∧ W.cell? ⟨gx, ox + 2, none⟩ = some (.int .i64 d0.z) ∧ W.cell? ⟨g3, 0, none⟩ = some (.int .i64 d3.s) ∧ W.cell? ⟨g3, 1, none⟩ = some (.slice d3.A d3.n d3.c) ∧ W.cell? ⟨g3, 2, none⟩ = some (.int .i64 d3.z)) (first | with_reducible assumption | with_reducible exact hS9 | with_reducible exact HS.out _ (hS.1.alloc hS.1.size _) | with_reducible exact HS.out _ (((Below.refl w2.heap.size w2).alloc (Nat.le_refl _) _).drew))
      (first
        | (go_at_call 176; with_reducible refine (CM.out _ hS.1).mono ?_; rintro e w6 ⟨rfl, b6⟩; (first | (have HZ := Lib.hid (zk_old HZ.out b6)) | skip); have HB := Lib.hid ((hS.1).trans (b6.mono (hS.1).size)); clear b6; have hS := HS.out _ HB.out)
        | (go_at_call 176; with_reducible refine (CM.out _ (hS.1.alloc hS.1.size _)).mono ?_; rintro e w6 ⟨rfl, b6⟩; have HZ := Lib.hid (zk_new hS.1 rfl b6); have HB := Lib.hid (((hS.1.alloc hS.1.size _)).trans (b6.mono ((hS.1.alloc hS.1.size _)).size)); clear b6; have hS := HS.out _ HB.out)
        | (go_at_call 176; with_reducible refine (CM.out _ (((Below.refl w2.heap.size w2).alloc (Nat.le_refl _) _).drew)).mono ?_; rintro e w6 ⟨rfl, b6⟩; have HZ := Lib.hid (zk_new0 b6); have HB := Lib.hid (((((Below.refl w2.heap.size w2).alloc (Nat.le_refl _) _).drew)).trans (b6.mono ((((Below.refl w2.heap.size w2).alloc (Nat.le_refl _) _).drew)).size)); clear b6; have hS := HS.out _ HB.out)
        | (go_at_call 175; with_reducible refine (CX.out _ hS.1).mono ?_; rintro e w9 ⟨⟨dv, rfl, hd9⟩, b9⟩; (first | (have HZ := Lib.hid (zk_old HZ.out b9)) | skip); have HB := Lib.hid ((hS.1).trans (b9.mono (hS.1).size)); clear b9; have hS := HS.out _ HB.out; (first | (have e0 := zk_cell HZ.out (j := 0) rfl; have e1 := zk_cell HZ.out (j := 1) rfl; have e2 := zk_cell HZ.out (j := 2) rfl; have f0 := zk_free HZ.out 0; have f1 := zk_free HZ.out 1; have f2 := zk_free HZ.out 2; have hS9 := HS.out _ (zk_put HB.out HZ.out (.int .i64 dv.s) (.slice dv.A dv.n dv.c) (.int .i64 dv.z))) | skip))
        | (go_at_call 175; with_reducible refine (CX.out _ (hS.1.alloc hS.1.size _)).mono ?_; rintro e w9 ⟨⟨dv, rfl, hd9⟩, b9⟩; have HZ := Lib.hid (zk_new hS.1 rfl b9); have HB := Lib.hid (((hS.1.alloc hS.1.size _)).trans (b9.mono ((hS.1.alloc hS.1.size _)).size)); clear b9; have hS := HS.out _ HB.out; (first | (have e0 := zk_cell HZ.out (j := 0) rfl; have e1 := zk_cell HZ.out (j := 1) rfl; have e2 := zk_cell HZ.out (j := 2) rfl; have f0 := zk_free HZ.out 0; have f1 := zk_free HZ.out 1; have f2 := zk_free HZ.out 2; have hS9 := HS.out _ (zk_put HB.out HZ.out (.int .i64 dv.s) (.slice dv.A dv.n dv.c) (.int .i64 dv.z))) | skip))
        | (go_at_call 175; with_reducible refine (CX.out _ (((Below.refl w2.heap.size w2).alloc (Nat.le_refl _) _).drew)).mono ?_; rintro e w9 ⟨⟨dv, rfl, hd9⟩, b9⟩; have HZ := Lib.hid (zk_new0 b9); have HB := Lib.hid (((((Below.refl w2.heap.size w2).alloc (Nat.le_refl _) _).drew)).trans (b9.mono ((((Below.refl w2.heap.size w2).alloc (Nat.le_refl _) _).drew)).size)); clear b9; have hS := HS.out _ HB.out; (first | (have e0 := zk_cell HZ.out (j := 0) rfl; have e1 := zk_cell HZ.out (j := 1) rfl; have e2 := zk_cell HZ.out (j := 2) rfl; have f0 := zk_free HZ.out 0; have f1 := zk_free HZ.out 1; have f2 := zk_free HZ.out 2; have hS9 := HS.out _ (zk_put HB.out HZ.out (.int .i64 dv.s) (.slice dv.A dv.n dv.c) (.int .i64 dv.z))) | skip)))
    all_goals
      first
        | go_wp2_with fail
        | skip
      go_meet
      case rel =>
        first
          | exact ⟨_, dv, rfl, rfl, Lib.hid (zk_var HZ.out hd9), Lib.hid (zk_put HB.out HZ.out _ _ _)⟩
          | exact ⟨_, dv, rfl, rfl, Lib.hid (VarD.new hd9), Lib.hid (HB.out.trans ((below1 _ _).mono HB.out.size))⟩
  case rest =>
  obtain ⟨g1, e1, rfl, rfl, V1, HB1⟩ := hcut
  obtain ⟨w3, rfl⟩ : ∃ w3, w3 = wc := ⟨_, rfl⟩
  have V33 := Lib.hid (V3.out.below HB1.out)
  have B3 := Lib.hid (B2.out.trans (HB1.out.mono B2.out.size))
  have CM : Hid (∀ W, Below w3.heap.size w3 W → Calls Tryz.prog 176 #[.agg #[.int .i64 d3.s, .slice d3.A d3.n d3.c, .int .i64 d3.z]] W fun e w' => e = .returned (.int .i64 m) ∧ Below W.heap.size W w') := Lib.hid (fun W hW => CM.out W (HB1.out.trans (hW.mono HB1.out.size)))
  have CX : Hid (∀ W, Below w3.heap.size w3 W → Calls Tryz.prog 175 #[.agg #[.int .i64 d1.s, .slice d1.A d1.n d1.c, .int .i64 d1.z], .int .i64 m] W fun e w' => (∃ d : Dv, e = .returned (.tuple #[.agg #[.int .i64 d.s, .slice d.A d.n d.c, .int .i64 d.z], .int .i64 ch2]) ∧ IsDom w' d.val X2) ∧ Below W.heap.size W w') := Lib.hid (fun W hW => CX2.out W (HB1.out.trans (hW.mono HB1.out.size)))
  clear CX2 HS
  have HS : Hid (∀ W, Below w3.heap.size w3 W → Below w3.heap.size w3 W ∧ W.cell? ⟨gx, ox + 3, none⟩ = some (.int .i64 d1.s) ∧ W.cell? ⟨gx, ox + 3 + 1, none⟩ = some (.slice d1.A d1.n d1.c) ∧ W.cell? ⟨gx, ox + 3 + 2, none⟩ = some (.int .i64 d1.z) ∧ W.cell? ⟨g3, 0, none⟩ = some (.int .i64 d3.s) ∧ W.cell? ⟨g3, 1, none⟩ = some (.slice d3.A d3.n d3.c) ∧ W.cell? ⟨g3, 2, none⟩ = some (.int .i64 d3.z)) := Lib.hid (fun W hW => by
    obtain ⟨p0, p1, p2, q0, q1, q2⟩ := HP.out
    have v := V33.out.below hW
    have k : ∀ {a : Addr} {u : Value}, w.cell? a = some u → W.cell? a = some u := fun h => ((B3.out.trans (hW.mono B3.out.size)).cell (World.block_lt_of_cell? _ _ h)).trans h
    exact ⟨hW, k q0, k q1, k q2, v.c0, v.c1, v.c2⟩)
  clear V3 B2 HB1 HT HP
  go_upto_region 3 with fail
  go_cut [6, 7] (fun p ch wx => ∃ (g1 : Nat) (dv : Dv), p = .pointer (some ⟨g1, 0, none⟩) ∧ ch = .int .i64 ch2 ∧ Hid (VarD wx g1 dv X2) ∧ Hid (Below w3.heap.size w3 wx))
  case first =>
    have hS := HS.out w3.drew (Below.refl _ _).drew
    go_region_held3 (fun W => Below w3.heap.size w3 W ∧ W.cell? ⟨gx, ox + 3, none⟩ = some (.int .i64 d1.s) ∧ W.cell? ⟨gx, ox + 3 + 1, none⟩ = some (.slice d1.A d1.n d1.c) ∧ W.cell? ⟨gx, ox + 3 + 2, none⟩ = some (.int .i64 d1.z) ∧ W.cell? ⟨g3, 0, none⟩ = some (.int .i64 d3.s) ∧ W.cell? ⟨g3, 1, none⟩ = some (.slice d3.A d3.n d3.c) ∧ W.cell? ⟨g3, 2, none⟩ = some (.int .i64 d3.z)) (first | with_reducible assumption | with_reducible exact hS9 | with_reducible exact HS.out _ (hS.1.alloc hS.1.size _) | with_reducible exact HS.out _ (((Below.refl w3.heap.size w3).alloc (Nat.le_refl _) _).drew))
      (first
        | (go_at_call 176; with_reducible refine (CM.out _ hS.1).mono ?_; rintro e w6 ⟨rfl, b6⟩; (first | (have HZ := Lib.hid (zk_old HZ.out b6)) | skip); have HB := Lib.hid ((hS.1).trans (b6.mono (hS.1).size)); clear b6; have hS := HS.out _ HB.out)
        | (go_at_call 176; with_reducible refine (CM.out _ (hS.1.alloc hS.1.size _)).mono ?_; rintro e w6 ⟨rfl, b6⟩; have HZ := Lib.hid (zk_new hS.1 rfl b6); have HB := Lib.hid (((hS.1.alloc hS.1.size _)).trans (b6.mono ((hS.1.alloc hS.1.size _)).size)); clear b6; have hS := HS.out _ HB.out)
        | (go_at_call 176; with_reducible refine (CM.out _ (((Below.refl w3.heap.size w3).alloc (Nat.le_refl _) _).drew)).mono ?_; rintro e w6 ⟨rfl, b6⟩; have HZ := Lib.hid (zk_new0 b6); have HB := Lib.hid (((((Below.refl w3.heap.size w3).alloc (Nat.le_refl _) _).drew)).trans (b6.mono ((((Below.refl w3.heap.size w3).alloc (Nat.le_refl _) _).drew)).size)); clear b6; have hS := HS.out _ HB.out)
        | (go_at_call 175; with_reducible refine (CX.out _ hS.1).mono ?_; rintro e w9 ⟨⟨dv, rfl, hd9⟩, b9⟩; (first | (have HZ := Lib.hid (zk_old HZ.out b9)) | skip); have HB := Lib.hid ((hS.1).trans (b9.mono (hS.1).size)); clear b9; have hS := HS.out _ HB.out; (first | (have e0 := zk_cell HZ.out (j := 0) rfl; have e1 := zk_cell HZ.out (j := 1) rfl; have e2 := zk_cell HZ.out (j := 2) rfl; have f0 := zk_free HZ.out 0; have f1 := zk_free HZ.out 1; have f2 := zk_free HZ.out 2; have hS9 := HS.out _ (zk_put HB.out HZ.out (.int .i64 dv.s) (.slice dv.A dv.n dv.c) (.int .i64 dv.z))) | skip))
        | (go_at_call 175; with_reducible refine (CX.out _ (hS.1.alloc hS.1.size _)).mono ?_; rintro e w9 ⟨⟨dv, rfl, hd9⟩, b9⟩; have HZ := Lib.hid (zk_new hS.1 rfl b9); have HB := Lib.hid (((hS.1.alloc hS.1.size _)).trans (b9.mono ((hS.1.alloc hS.1.size _)).size)); clear b9; have hS := HS.out _ HB.out; (first | (have e0 := zk_cell HZ.out (j := 0) rfl; have e1 := zk_cell HZ.out (j := 1) rfl; have e2 := zk_cell HZ.out (j := 2) rfl; have f0 := zk_free HZ.out 0; have f1 := zk_free HZ.out 1; have f2 := zk_free HZ.out 2; have hS9 := HS.out _ (zk_put HB.out HZ.out (.int .i64 dv.s) (.slice dv.A dv.n dv.c) (.int .i64 dv.z))) | skip))
        | (go_at_call 175; with_reducible refine (CX.out _ (((Below.refl w3.heap.size w3).alloc (Nat.le_refl _) _).drew)).mono ?_; rintro e w9 ⟨⟨dv, rfl, hd9⟩, b9⟩; have HZ := Lib.hid (zk_new0 b9); have HB := Lib.hid (((((Below.refl w3.heap.size w3).alloc (Nat.le_refl _) _).drew)).trans (b9.mono ((((Below.refl w3.heap.size w3).alloc (Nat.le_refl _) _).drew)).size)); clear b9; have hS := HS.out _ HB.out; (first | (have e0 := zk_cell HZ.out (j := 0) rfl; have e1 := zk_cell HZ.out (j := 1) rfl; have e2 := zk_cell HZ.out (j := 2) rfl; have f0 := zk_free HZ.out 0; have f1 := zk_free HZ.out 1; have f2 := zk_free HZ.out 2; have hS9 := HS.out _ (zk_put HB.out HZ.out (.int .i64 dv.s) (.slice dv.A dv.n dv.c) (.int .i64 dv.z))) | skip)))
    all_goals
      first
        | go_wp2_with fail
        | skip
      go_meet
      case rel =>
        first
          | exact ⟨_, dv, rfl, rfl, Lib.hid (zk_var HZ.out hd9), Lib.hid (zk_put HB.out HZ.out _ _ _)⟩
          | exact ⟨_, dv, rfl, rfl, Lib.hid (VarD.new hd9), Lib.hid (HB.out.trans ((below1 _ _).mono HB.out.size))⟩
  case rest =>
  obtain ⟨g2, e2, rfl, rfl, V2, HB2⟩ := hcut
  obtain ⟨w4, rfl⟩ : ∃ w4, w4 = wc := ⟨_, rfl⟩
  have v1 := V1.out.below HB2.out
  have v3 := V33.out.below HB2.out
  have v2 := V2.out
  have a0 := v1.c0
  have a1 := v1.c1
  have a2 := v1.c2
  have b0 := v2.c0
  have b1 := v2.c1
  have b2 := v2.c2
  have c0 := v3.c0
  have c1 := v3.c1
  have c2 := v3.c2
  have HDD := Lib.hid (doms_build3 v1.2 v2.2 v3.2)
  have B4 := Lib.hid (B3.out.trans (HB2.out.mono B3.out.size))
  clear HS CM CX V1 V2 V33 B3 HB2 v1 v2 v3
  go_wp2_with fail
  go_ret
  exact ⟨⟨⟨some ⟨w4.heap.size, 0, none⟩, 3, 3⟩, rfl, HDD.out⟩, B4.out.trans ((below1 w4 _).mono B4.out.size)⟩

set_option maxHeartbeats 8000000 in
set_option maxRecDepth 100000 in
theorem notAbove_any (x : Sl) (A Bs C : List Int) (w : World) (h : DomsIn w x [A, Bs, C]) (hT : TabZ w) :
    Calls Tryz.prog 117 #[.slice x.A x.n x.c] w fun e w' => (∃ y : Sl, e = .returned (.slice y.A y.n y.c) ∧ DomsIn w' y [A.filter fun u => decide (u ≤ (thirdX 10 A Bs C).getLast?.getD 0), Bs.filter fun u => decide (u ≤ (thirdX 10 A Bs C).getLast?.getD 0), thirdX 10 A Bs C]) ∧ Below w.heap.size w w' := by
  have hxn : x.n = 3 := h.len
  have CB := Lib.hid (betweenX_any 173 (enters_of Tryz.func173 (by kernel_rfl) rfl) (selV 10) (fun a b W => greaterX_any a b W) x A Bs C w h hT)
  have hH := h
  obtain ⟨gx, ox, d0, ex, p0, p1, p2, hD0⟩ := h.at_ 0 (by omega)
  obtain ⟨g', o', d1, ex', q0, q1, q2, hD1⟩ := h.at_ 1 (by omega)
  have eg1 : gx = g' ∧ ox = o' := by rw [ex] at ex'; injection ex' with ex'; injection ex' with e1 e2 _; exact ⟨e1, e2⟩
  obtain ⟨rfl, rfl⟩ := eg1
  have hD0' : IsDom w d0.val A := hD0
  have hD1' : IsDom w d1.val Bs := hD1
  have HD0 := Lib.hid hD0'
  have HD1 := Lib.hid hD1'
  have HT := Lib.hid hT
  rw [Nat.zero_mul, Nat.add_zero] at p0 p1 p2
  rw [Nat.one_mul] at q0 q1 q2
  have HP := Lib.hid (And.intro p0 (And.intro p1 (And.intro p2 (And.intro q0 (And.intro q1 q2)))))
  rw [ex, hxn] at CB ⊢
  obtain ⟨T3, hT3⟩ : ∃ T3, T3 = thirdX 10 A Bs C := ⟨_, rfl⟩
  rw [← hT3]
  have CB : Hid (Calls Tryz.prog 174 #[.func (.func 173) #[] #[], .slice (some ⟨gx, ox, none⟩) 3 x.c] w fun e w' => (∃ d : Dv, e = .returned d.val ∧ IsDom w' d.val T3) ∧ Below w.heap.size w w') := Lib.hid (by rw [hT3]; exact CB.out)
  obtain ⟨m, hm⟩ : ∃ m, m = T3.getLast?.getD 0 := ⟨_, rfl⟩
  have hX : ∀ L : List Int, (L.filter fun u => decide (u ≤ T3.getLast?.getD 0)) = L.filter fun u => decide (u ≤ m) := fun L => by rw [hm]
  rw [hX, hX]
  obtain ⟨X1, hX1⟩ : ∃ X1, X1 = A.filter fun u => decide (u ≤ m) := ⟨_, rfl⟩
  obtain ⟨X2, hX2⟩ : ∃ X2, X2 = Bs.filter fun u => decide (u ≤ m) := ⟨_, rfl⟩
  rw [← hX1, ← hX2]
  have HX1 := Lib.hid hX1
  have HX2 := Lib.hid hX2
  have HMM := Lib.hid hm
  clear hX1 hX2 hX hm hT3 h hH hT hD0 hD1 hD0' hD1' ex' ex hxn p0 p1 p2 q0 q1 q2
  go_enter Tryz.func117, Tryz.ntmps117
  go_wp2_with fail
  refine CB.out.mono ?_
  rintro e w1 ⟨⟨d3, rfl, h3⟩, b1⟩
  obtain ⟨w2, hw2⟩ : ∃ w2, w1.alloc (.cells #[.int .i64 d3.s, .slice d3.A d3.n d3.c, .int .i64 d3.z] 53) = w2 := ⟨_, rfl⟩
  have v3 : VarD w2 w1.heap.size d3 T3 := hw2 ▸ VarD.new h3
  have b12 : Below w1.heap.size w1 w2 := hw2 ▸ below1 w1 _
  have B2 := Lib.hid (b1.trans (b12.mono b1.size))
  obtain ⟨g3, hg3⟩ : ∃ g3, g3 = w1.heap.size := ⟨_, rfl⟩
  rw [← hg3] at v3
  have V3 := Lib.hid v3
  clear CB h3 b1 b12 v3
  go_upto_region 2 with fail
  clear hw2
  try rw [← hg3]
  clear hg3
  have HS : Hid (∀ W, Below w2.heap.size w2 W → Below w2.heap.size w2 W ∧ W.cell? ⟨gx, ox, none⟩ = some (.int .i64 d0.s) ∧ W.cell? ⟨gx, ox + 1, none⟩ = some (.slice d0.A d0.n d0.c) ∧ W.cell? ⟨gx, ox + 2, none⟩ = some (.int .i64 d0.z) ∧ W.cell? ⟨g3, 0, none⟩ = some (.int .i64 d3.s) ∧ W.cell? ⟨g3, 1, none⟩ = some (.slice d3.A d3.n d3.c) ∧ W.cell? ⟨g3, 2, none⟩ = some (.int .i64 d3.z)) := Lib.hid (fun W hW => by
    obtain ⟨p0, p1, p2, q0, q1, q2⟩ := HP.out
    have v := V3.out.below hW
    have k : ∀ {a : Addr} {u : Value}, w.cell? a = some u → W.cell? a = some u := fun h => ((B2.out.trans (hW.mono B2.out.size)).cell (World.block_lt_of_cell? _ _ h)).trans h
    exact ⟨hW, k p0, k p1, k p2, v.c0, v.c1, v.c2⟩)
  have CM : Hid (∀ W, Below w2.heap.size w2 W → Calls Tryz.prog 98 #[.agg #[.int .i64 d3.s, .slice d3.A d3.n d3.c, .int .i64 d3.z]] W fun e w' => e = .returned (.int .i64 m) ∧ Below W.heap.size W w') := Lib.hid (fun W hW => by rw [HMM.out]; exact D.max_dom d3.val T3 W (V3.out.below hW).2)
  obtain ⟨ch1, hch1⟩ : ∃ ch1, ch1 = D.chg A X1 := ⟨_, rfl⟩
  obtain ⟨ch2, hch2⟩ : ∃ ch2, ch2 = D.chg Bs X2 := ⟨_, rfl⟩
  have CX : Hid (∀ W, Below w2.heap.size w2 W → Calls Tryz.prog 177 #[.agg #[.int .i64 d0.s, .slice d0.A d0.n d0.c, .int .i64 d0.z], .int .i64 m] W fun e w' => (∃ d : Dv, e = .returned (.tuple #[.agg #[.int .i64 d.s, .slice d.A d.n d.c, .int .i64 d.z], .int .i64 ch1]) ∧ IsDom w' d.val X1) ∧ Below W.heap.size W w') := Lib.hid (fun W hW => by rw [hch1, HX1.out]; exact gives_dv (D.most_dom d0.val A m W (HD0.out.below (B2.out.trans (hW.mono B2.out.size))) (HT.out.below (B2.out.trans (hW.mono B2.out.size)))))
  have CX2 : Hid (∀ W, Below w2.heap.size w2 W → Calls Tryz.prog 177 #[.agg #[.int .i64 d1.s, .slice d1.A d1.n d1.c, .int .i64 d1.z], .int .i64 m] W fun e w' => (∃ d : Dv, e = .returned (.tuple #[.agg #[.int .i64 d.s, .slice d.A d.n d.c, .int .i64 d.z], .int .i64 ch2]) ∧ IsDom w' d.val X2) ∧ Below W.heap.size W w') := Lib.hid (fun W hW => by rw [hch2, HX2.out]; exact gives_dv (D.most_dom d1.val Bs m W (HD1.out.below (B2.out.trans (hW.mono B2.out.size))) (HT.out.below (B2.out.trans (hW.mono B2.out.size)))))
  clear HX1 HX2 hch1 hch2 HMM HD0 HD1
  go_cut [4, 5] (fun p ch wx => ∃ (g1 : Nat) (dv : Dv), p = .pointer (some ⟨g1, 0, none⟩) ∧ ch = .int .i64 ch1 ∧ Hid (VarD wx g1 dv X1) ∧ Hid (Below w2.heap.size w2 wx))
  case first =>
    have hS := HS.out w2.drew (Below.refl _ _).drew
    go_region_held3 (fun W => Below w2.heap.size w2 W ∧ W.cell? ⟨gx, ox, none⟩ = some (.int .i64 d0.s) ∧ W.cell? ⟨gx, ox + 1, none⟩ = some (.slice d0.A d0.n d0.c) ∧ W.cell? ⟨gx, ox + 2, none⟩ = some (.int .i64 d0.z) ∧ W.cell? ⟨g3, 0, none⟩ = some (.int .i64 d3.s) ∧ W.cell? ⟨g3, 1, none⟩ = some (.slice d3.A d3.n d3.c) ∧ W.cell? ⟨g3, 2, none⟩ = some (.int .i64 d3.z)) (first | with_reducible assumption | with_reducible exact hS9 | with_reducible exact HS.out _ (hS.1.alloc hS.1.size _) | with_reducible exact HS.out _ (((Below.refl w2.heap.size w2).alloc (Nat.le_refl _) _).drew))
      (first
        | (go_at_call 98; with_reducible refine (CM.out _ hS.1).mono ?_; rintro e w6 ⟨rfl, b6⟩; (first | (have HZ := Lib.hid (zk_old HZ.out b6)) | skip); have HB := Lib.hid ((hS.1).trans (b6.mono (hS.1).size)); clear b6; have hS := HS.out _ HB.out)
        | (go_at_call 98; with_reducible refine (CM.out _ (hS.1.alloc hS.1.size _)).mono ?_; rintro e w6 ⟨rfl, b6⟩; have HZ := Lib.hid (zk_new hS.1 rfl b6); have HB := Lib.hid (((hS.1.alloc hS.1.size _)).trans (b6.mono ((hS.1.alloc hS.1.size _)).size)); clear b6; have hS := HS.out _ HB.out)
        | (go_at_call 98; with_reducible refine (CM.out _ (((Below.refl w2.heap.size w2).alloc (Nat.le_refl _) _).drew)).mono ?_; rintro e w6 ⟨rfl, b6⟩; have HZ := Lib.hid (zk_new0 b6); have HB := Lib.hid (((((Below.refl w2.heap.size w2).alloc (Nat.le_refl _) _).drew)).trans (b6.mono ((((Below.refl w2.heap.size w2).alloc (Nat.le_refl _) _).drew)).size)); clear b6; have hS := HS.out _ HB.out)
        | (go_at_call 177; with_reducible refine (CX.out _ hS.1).mono ?_; rintro e w9 ⟨⟨dv, rfl, hd9⟩, b9⟩; (first | (have HZ := Lib.hid (zk_old HZ.out b9)) | skip); have HB := Lib.hid ((hS.1).trans (b9.mono (hS.1).size)); clear b9; have hS := HS.out _ HB.out; (first | (have e0 := zk_cell HZ.out (j := 0) rfl; have e1 := zk_cell HZ.out (j := 1) rfl; have e2 := zk_cell HZ.out (j := 2) rfl; have f0 := zk_free HZ.out 0; have f1 := zk_free HZ.out 1; have f2 := zk_free HZ.out 2; have hS9 := HS.out _ (zk_put HB.out HZ.out (.int .i64 dv.s) (.slice dv.A dv.n dv.c) (.int .i64 dv.z))) | skip))
        | (go_at_call 177; with_reducible refine (CX.out _ (hS.1.alloc hS.1.size _)).mono ?_; rintro e w9 ⟨⟨dv, rfl, hd9⟩, b9⟩; have HZ := Lib.hid (zk_new hS.1 rfl b9); have HB := Lib.hid (((hS.1.alloc hS.1.size _)).trans (b9.mono ((hS.1.alloc hS.1.size _)).size)); clear b9; have hS := HS.out _ HB.out; (first | (have e0 := zk_cell HZ.out (j := 0) rfl; have e1 := zk_cell HZ.out (j := 1) rfl; have e2 := zk_cell HZ.out (j := 2) rfl; have f0 := zk_free HZ.out 0; have f1 := zk_free HZ.out 1; have f2 := zk_free HZ.out 2; have hS9 := HS.out _ (zk_put HB.out HZ.out (.int .i64 dv.s) (.slice dv.A dv.n dv.c) (.int .i64 dv.z))) | skip))
        | (go_at_call 177; with_reducible refine (CX.out _ (((Below.refl w2.heap.size w2).alloc (Nat.le_refl _) _).drew)).mono ?_; rintro e w9 ⟨⟨dv, rfl, hd9⟩, b9⟩; have HZ := Lib.hid (zk_new0 b9); have HB := Lib.hid (((((Below.refl w2.heap.size w2).alloc (Nat.le_refl _) _).drew)).trans (b9.mono ((((Below.refl w2.heap.size w2).alloc (Nat.le_refl _) _).drew)).size)); clear b9; have hS := HS.out _ HB.out; (first | (have e0 := zk_cell HZ.out (j := 0) rfl; have e1 := zk_cell HZ.out (j := 1) rfl; have e2 := zk_cell HZ.out (j := 2) rfl; have f0 := zk_free HZ.out 0; have f1 := zk_free HZ.out 1; have f2 := zk_free HZ.out 2; have hS9 := HS.out _ (zk_put HB.out HZ.out (.int .i64 dv.s) (.slice dv.A dv.n dv.c) (.int .i64 dv.z))) | skip)))
    all_goals
      first
        | go_wp2_with fail
        | skip
      go_meet
      case rel =>
        first
          | exact ⟨_, dv, rfl, rfl, Lib.hid (zk_var HZ.out hd9), Lib.hid (zk_put HB.out HZ.out _ _ _)⟩
          | exact ⟨_, dv, rfl, rfl, Lib.hid (VarD.new hd9), Lib.hid (HB.out.trans ((below1 _ _).mono HB.out.size))⟩
  case rest =>
  obtain ⟨g1, e1, rfl, rfl, V1, HB1⟩ := hcut
  obtain ⟨w3, rfl⟩ : ∃ w3, w3 = wc := ⟨_, rfl⟩
  have V33 := Lib.hid (V3.out.below HB1.out)
  have B3 := Lib.hid (B2.out.trans (HB1.out.mono B2.out.size))
  have CM : Hid (∀ W, Below w3.heap.size w3 W → Calls Tryz.prog 98 #[.agg #[.int .i64 d3.s, .slice d3.A d3.n d3.c, .int .i64 d3.z]] W fun e w' => e = .returned (.int .i64 m) ∧ Below W.heap.size W w') := Lib.hid (fun W hW => CM.out W (HB1.out.trans (hW.mono HB1.out.size)))
  have CX : Hid (∀ W, Below w3.heap.size w3 W → Calls Tryz.prog 177 #[.agg #[.int .i64 d1.s, .slice d1.A d1.n d1.c, .int .i64 d1.z], .int .i64 m] W fun e w' => (∃ d : Dv, e = .returned (.tuple #[.agg #[.int .i64 d.s, .slice d.A d.n d.c, .int .i64 d.z], .int .i64 ch2]) ∧ IsDom w' d.val X2) ∧ Below W.heap.size W w') := Lib.hid (fun W hW => CX2.out W (HB1.out.trans (hW.mono HB1.out.size)))
  clear CX2 HS
  have HS : Hid (∀ W, Below w3.heap.size w3 W → Below w3.heap.size w3 W ∧ W.cell? ⟨gx, ox + 3, none⟩ = some (.int .i64 d1.s) ∧ W.cell? ⟨gx, ox + 3 + 1, none⟩ = some (.slice d1.A d1.n d1.c) ∧ W.cell? ⟨gx, ox + 3 + 2, none⟩ = some (.int .i64 d1.z) ∧ W.cell? ⟨g3, 0, none⟩ = some (.int .i64 d3.s) ∧ W.cell? ⟨g3, 1, none⟩ = some (.slice d3.A d3.n d3.c) ∧ W.cell? ⟨g3, 2, none⟩ = some (.int .i64 d3.z)) := Lib.hid (fun W hW => by
    obtain ⟨p0, p1, p2, q0, q1, q2⟩ := HP.out
    have v := V33.out.below hW
    have k : ∀ {a : Addr} {u : Value}, w.cell? a = some u → W.cell? a = some u := fun h => ((B3.out.trans (hW.mono B3.out.size)).cell (World.block_lt_of_cell? _ _ h)).trans h
    exact ⟨hW, k q0, k q1, k q2, v.c0, v.c1, v.c2⟩)
  clear V3 B2 HB1 HT HP
  go_upto_region 3 with fail
  go_cut [6, 7] (fun p ch wx => ∃ (g1 : Nat) (dv : Dv), p = .pointer (some ⟨g1, 0, none⟩) ∧ ch = .int .i64 ch2 ∧ Hid (VarD wx g1 dv X2) ∧ Hid (Below w3.heap.size w3 wx))
  case first =>
    have hS := HS.out w3.drew (Below.refl _ _).drew
    go_region_held3 (fun W => Below w3.heap.size w3 W ∧ W.cell? ⟨gx, ox + 3, none⟩ = some (.int .i64 d1.s) ∧ W.cell? ⟨gx, ox + 3 + 1, none⟩ = some (.slice d1.A d1.n d1.c) ∧ W.cell? ⟨gx, ox + 3 + 2, none⟩ = some (.int .i64 d1.z) ∧ W.cell? ⟨g3, 0, none⟩ = some (.int .i64 d3.s) ∧ W.cell? ⟨g3, 1, none⟩ = some (.slice d3.A d3.n d3.c) ∧ W.cell? ⟨g3, 2, none⟩ = some (.int .i64 d3.z)) (first | with_reducible assumption | with_reducible exact hS9 | with_reducible exact HS.out _ (hS.1.alloc hS.1.size _) | with_reducible exact HS.out _ (((Below.refl w3.heap.size w3).alloc (Nat.le_refl _) _).drew))
      (first
        | (go_at_call 98; with_reducible refine (CM.out _ hS.1).mono ?_; rintro e w6 ⟨rfl, b6⟩; (first | (have HZ := Lib.hid (zk_old HZ.out b6)) | skip); have HB := Lib.hid ((hS.1).trans (b6.mono (hS.1).size)); clear b6; have hS := HS.out _ HB.out)
        | (go_at_call 98; with_reducible refine (CM.out _ (hS.1.alloc hS.1.size _)).mono ?_; rintro e w6 ⟨rfl, b6⟩; have HZ := Lib.hid (zk_new hS.1 rfl b6); have HB := Lib.hid (((hS.1.alloc hS.1.size _)).trans (b6.mono ((hS.1.alloc hS.1.size _)).size)); clear b6; have hS := HS.out _ HB.out)
        | (go_at_call 98; with_reducible refine (CM.out _ (((Below.refl w3.heap.size w3).alloc (Nat.le_refl _) _).drew)).mono ?_; rintro e w6 ⟨rfl, b6⟩; have HZ := Lib.hid (zk_new0 b6); have HB := Lib.hid (((((Below.refl w3.heap.size w3).alloc (Nat.le_refl _) _).drew)).trans (b6.mono ((((Below.refl w3.heap.size w3).alloc (Nat.le_refl _) _).drew)).size)); clear b6; have hS := HS.out _ HB.out)
        | (go_at_call 177; with_reducible refine (CX.out _ hS.1).mono ?_; rintro e w9 ⟨⟨dv, rfl, hd9⟩, b9⟩; (first | (have HZ := Lib.hid (zk_old HZ.out b9)) | skip); have HB := Lib.hid ((hS.1).trans (b9.mono (hS.1).size)); clear b9; have hS := HS.out _ HB.out; (first | (have e0 := zk_cell HZ.out (j := 0) rfl; have e1 := zk_cell HZ.out (j := 1) rfl; have e2 := zk_cell HZ.out (j := 2) rfl; have f0 := zk_free HZ.out 0; have f1 := zk_free HZ.out 1; have f2 := zk_free HZ.out 2; have hS9 := HS.out _ (zk_put HB.out HZ.out (.int .i64 dv.s) (.slice dv.A dv.n dv.c) (.int .i64 dv.z))) | skip))
        | (go_at_call 177; with_reducible refine (CX.out _ (hS.1.alloc hS.1.size _)).mono ?_; rintro e w9 ⟨⟨dv, rfl, hd9⟩, b9⟩; have HZ := Lib.hid (zk_new hS.1 rfl b9); have HB := Lib.hid (((hS.1.alloc hS.1.size _)).trans (b9.mono ((hS.1.alloc hS.1.size _)).size)); clear b9; have hS := HS.out _ HB.out; (first | (have e0 := zk_cell HZ.out (j := 0) rfl; have e1 := zk_cell HZ.out (j := 1) rfl; have e2 := zk_cell HZ.out (j := 2) rfl; have f0 := zk_free HZ.out 0; have f1 := zk_free HZ.out 1; have f2 := zk_free HZ.out 2; have hS9 := HS.out _ (zk_put HB.out HZ.out (.int .i64 dv.s) (.slice dv.A dv.n dv.c) (.int .i64 dv.z))) | skip))
        | (go_at_call 177; with_reducible refine (CX.out _ (((Below.refl w3.heap.size w3).alloc (Nat.le_refl _) _).drew)).mono ?_; rintro e w9 ⟨⟨dv, rfl, hd9⟩, b9⟩; have HZ := Lib.hid (zk_new0 b9); have HB := Lib.hid (((((Below.refl w3.heap.size w3).alloc (Nat.le_refl _) _).drew)).trans (b9.mono ((((Below.refl w3.heap.size w3).alloc (Nat.le_refl _) _).drew)).size)); clear b9; have hS := HS.out _ HB.out; (first | (have e0 := zk_cell HZ.out (j := 0) rfl; have e1 := zk_cell HZ.out (j := 1) rfl; have e2 := zk_cell HZ.out (j := 2) rfl; have f0 := zk_free HZ.out 0; have f1 := zk_free HZ.out 1; have f2 := zk_free HZ.out 2; have hS9 := HS.out _ (zk_put HB.out HZ.out (.int .i64 dv.s) (.slice dv.A dv.n dv.c) (.int .i64 dv.z))) | skip)))
    all_goals
      first
        | go_wp2_with fail
        | skip
      go_meet
      case rel =>
        first
          | exact ⟨_, dv, rfl, rfl, Lib.hid (zk_var HZ.out hd9), Lib.hid (zk_put HB.out HZ.out _ _ _)⟩
          | exact ⟨_, dv, rfl, rfl, Lib.hid (VarD.new hd9), Lib.hid (HB.out.trans ((below1 _ _).mono HB.out.size))⟩
  case rest =>
  obtain ⟨g2, e2, rfl, rfl, V2, HB2⟩ := hcut
  obtain ⟨w4, rfl⟩ : ∃ w4, w4 = wc := ⟨_, rfl⟩
  have v1 := V1.out.below HB2.out
  have v3 := V33.out.below HB2.out
  have v2 := V2.out
  have a0 := v1.c0
  have a1 := v1.c1
  have a2 := v1.c2
  have b0 := v2.c0
  have b1 := v2.c1
  have b2 := v2.c2
  have c0 := v3.c0
  have c1 := v3.c1
  have c2 := v3.c2
  have HDD := Lib.hid (doms_build3 v1.2 v2.2 v3.2)
  have B4 := Lib.hid (B3.out.trans (HB2.out.mono B3.out.size))
  clear HS CM CX V1 V2 V33 B3 HB2 v1 v2 v3
  go_wp2_with fail
  go_ret
  exact ⟨⟨⟨some ⟨w4.heap.size, 0, none⟩, 3, 3⟩, rfl, HDD.out⟩, B4.out.trans ((below1 w4 _).mono B4.out.size)⟩
end Go.Proofs.YtkhmocbfkpbpfaaGreatDoor
