/- Contract of ext's between. -/
import Derived.Test.YtkhmocbfkpbpfaaGreatDoorExt3
import Derived.Test.YtkhmocbfkpbpfaaGreatDoorQfrom
import Derived.Test.YtkhmocbfkpbpfaaGreatDoorGfn5
import Derived.Deep.RegionHeld3
namespace Go.Proofs.YtkhmocbfkpbpfaaGreatDoor
open Go.RowKit Go.Sort

/-- A box of a domain that was laid while a region was being carried out: it still holds nothing. -/
def ZK (B : Nat) (W : World) (g : Nat) : Prop := W.heap[g]? = some (.cells #[.int .i64 0, .slice none 0 0, .int .i64 0] 53 (0, 0)) ∧ B ≤ g
theorem zk_old {B : Nat} {W W' : World} {g : Nat} (h : ZK B W g) (b : Below W.heap.size W W') : ZK B W' g := ⟨(b.block _ (Array.getElem?_eq_some_iff.1 h.1).1).trans h.1, h.2⟩
theorem zk_new {B : Nat} {w V W' : World} (h : Below B w V) (hB : B = w.heap.size) (b : Below (V.alloc (.cells #[.int .i64 0, .slice none 0 0, .int .i64 0] 53)).heap.size (V.alloc (.cells #[.int .i64 0, .slice none 0 0, .int .i64 0] 53)) W') : ZK B W' V.heap.size :=
  ⟨(b.block _ (by simp)).trans (heap_new V _), hB ▸ (hB ▸ h).size⟩
theorem zk_new0 {w W' : World} (b : Below (w.alloc (.cells #[.int .i64 0, .slice none 0 0, .int .i64 0] 53)).drew.heap.size (w.alloc (.cells #[.int .i64 0, .slice none 0 0, .int .i64 0] 53)).drew W') : ZK w.heap.size W' w.heap.size :=
  ⟨(b.block w.heap.size (by show w.heap.size < (w.alloc (.cells #[.int .i64 0, .slice none 0 0, .int .i64 0] 53)).heap.size; simp)).trans (heap_new w (.cells #[.int .i64 0, .slice none 0 0, .int .i64 0] 53)), Nat.le_refl _⟩
theorem zk_cell {B : Nat} {W : World} {g : Nat} (h : ZK B W g) {j : Nat} {x : Value} (e : (#[.int .i64 0, .slice none 0 0, .int .i64 0] : Array Value)[j]? = some x) : W.cell? ⟨g, j, none⟩ = some x := box_cell h.1 e
theorem zk_free {B : Nat} {W : World} {g : Nat} (h : ZK B W g) (j : Nat) : W.frozen? ⟨g, j, none⟩ = false := box_free h.1 j
theorem zk_put {w W : World} {g : Nat} (h : Below w.heap.size w W) (z : ZK w.heap.size W g) (x y u : Value) : Below w.heap.size w (((W.setCell ⟨g, 0, none⟩ x).setCell ⟨g, 1, none⟩ y).setCell ⟨g, 2, none⟩ u) := out_below h g z.2 _ _ _
theorem zk_var {B : Nat} {W : World} {g : Nat} {d : Dv} {L : List Int} (z : ZK B W g) (h : IsDom W d.val L) : VarD (((W.setCell ⟨g, 0, none⟩ (.int .i64 d.s)).setCell ⟨g, 1, none⟩ (.slice d.A d.n d.c)).setCell ⟨g, 2, none⟩ (.int .i64 d.z)) g d L :=
  ⟨put3_block z.1, h.put3 z.1 (plain_int _ _ (by decide)) (plain_sl _ _ _) (plain_int _ _ (by decide)) _ _ _ (plain_int _ _ (by decide)) (plain_sl _ _ _)⟩
theorem gives_dv {f : Nat} {args : Array Value} {W : World} {R : List Int} {ch : Int} (h : Calls Tryz.prog f args W (GivesDom W R ch)) : Calls Tryz.prog f args W fun e w' => (∃ d : Dv, e = .returned (.tuple #[.agg #[.int .i64 d.s, .slice d.A d.n d.c, .int .i64 d.z], .int .i64 ch]) ∧ IsDom w' d.val R) ∧ Below W.heap.size W w' :=
  h.mono fun _ _ hh => by
    obtain ⟨d, rfl, hd, b⟩ := hh
    obtain ⟨dv, rfl, -⟩ := Dv.of hd
    exact ⟨⟨dv, rfl, hd⟩, b⟩
/-- A variable that holds a domain is written anew. -/
theorem VarD.put {W : World} {g : Nat} {d d' : Dv} {L L' : List Int} (v : VarD W g d L) (h : IsDom W d'.val L') : VarD (((W.setCell ⟨g, 0, none⟩ (.int .i64 d'.s)).setCell ⟨g, 1, none⟩ (.slice d'.A d'.n d'.c)).setCell ⟨g, 2, none⟩ (.int .i64 d'.z)) g d' L' :=
  ⟨put3_block v.1, h.put3 v.1 (plain_int _ _ (by decide)) (plain_sl _ _ _) (plain_int _ _ (by decide)) _ _ _ (plain_int _ _ (by decide)) (plain_sl _ _ _)⟩

set_option maxHeartbeats 8000000 in
set_option maxRecDepth 100000 in
theorem betweenX_any (g : Nat) (eg : ∀ args w, (callFunc g args).run Tryz.prog w = .ok (.enter g args) w) (s : Int → Int → Int) (hs : ∀ a b W, Calls Tryz.prog g #[.int .i64 a, .int .i64 b] W fun e w' => e = .returned (.int .i64 (s a b)) ∧ W = w')
    (x : Sl) (A Bs C : List Int) (w : World) (h : DomsIn w x [A, Bs, C]) (hT : TabZ w) :
    Calls Tryz.prog 174 #[.func (.func g) #[] #[], .slice x.A x.n x.c] w fun e w' => (∃ d : Dv, e = .returned d.val ∧ IsDom w' d.val ((C.filter fun u => decide (s (A.head?.getD 0) (Bs.head?.getD 0) ≤ u)).filter fun u => decide (u ≤ s (A.getLast?.getD 0) (Bs.getLast?.getD 0)))) ∧ Below w.heap.size w w' := by
  have hxn : x.n = 3 := h.len
  obtain ⟨w4, hw4⟩ : ∃ w4, w.alloc (.cells #[.int .i64 0, .slice none 0 0, .int .i64 0] 53) = w4 := ⟨_, rfl⟩
  have b4 : Below w.heap.size w w4 := hw4 ▸ below1 w _
  have n4 : w4.heap[w.heap.size]? = some (.cells #[.int .i64 0, .slice none 0 0, .int .i64 0] 53 (0, 0)) := hw4 ▸ heap_new w _
  have h4 := h.below b4
  obtain ⟨gx, ox, d0, ex, p0, p1, p2, hD0⟩ := h4.at_ 0 (by omega)
  obtain ⟨g', o', d1, ex', q0, q1, q2, hD1⟩ := h4.at_ 1 (by omega)
  obtain ⟨g'', o'', d2, ex'', r0, r1, r2, hD2⟩ := h4.at_ 2 (by omega)
  have eg1 : gx = g' ∧ ox = o' := by rw [ex] at ex'; injection ex' with ex'; injection ex' with e1 e2 _; exact ⟨e1, e2⟩
  have eg2 : gx = g'' ∧ ox = o'' := by rw [ex] at ex''; injection ex'' with ex''; injection ex'' with e1 e2 _; exact ⟨e1, e2⟩
  obtain ⟨rfl, rfl⟩ := eg1
  obtain ⟨rfl, rfl⟩ := eg2
  have hD0' : IsDom w4 d0.val A := hD0
  have hD1' : IsDom w4 d1.val Bs := hD1
  have hD2' : IsDom w4 d2.val C := hD2
  have HD0 := Lib.hid hD0'
  have HD1 := Lib.hid hD1'
  have HD2 := Lib.hid hD2'
  have HT4 := Lib.hid (hT.below b4)
  have HN4 := Lib.hid n4
  have B04 := Lib.hid b4
  rw [ex, hxn]
  clear hxn
  rw [Nat.zero_mul, Nat.add_zero] at p0 p1 p2
  rw [Nat.one_mul] at q0 q1 q2
  have r0 : w4.cell? ⟨gx, ox + 6, none⟩ = some (.int .i64 d2.s) := r0
  have r1 : w4.cell? ⟨gx, ox + 6 + 1, none⟩ = some (.slice d2.A d2.n d2.c) := r1
  have r2 : w4.cell? ⟨gx, ox + 6 + 2, none⟩ = some (.int .i64 d2.z) := r2
  have HP := Lib.hid (And.intro p0 (And.intro p1 (And.intro p2 (And.intro q0 (And.intro q1 (And.intro q2 (And.intro r0 (And.intro r1 r2))))))))
  obtain ⟨am, ham⟩ : ∃ v, v = A.head?.getD 0 := ⟨_, rfl⟩
  obtain ⟨ax, hax⟩ : ∃ v, v = A.getLast?.getD 0 := ⟨_, rfl⟩
  obtain ⟨bm, hbm⟩ : ∃ v, v = Bs.head?.getD 0 := ⟨_, rfl⟩
  obtain ⟨bx, hbx⟩ : ∃ v, v = Bs.getLast?.getD 0 := ⟨_, rfl⟩
  rw [← ham, ← hax, ← hbm, ← hbx]
  have GA : Hid (∀ W, Below w4.heap.size w4 W → Calls Tryz.prog 176 #[.agg #[.int .i64 d0.s, .slice d0.A d0.n d0.c, .int .i64 d0.z]] W fun e w' => e = .returned (.int .i64 am) ∧ Below W.heap.size W w') := Lib.hid (fun W hW => by have := D.min_dom d0.val A W (HD0.out.below hW) (HT4.out.below hW); rw [← ham] at this; exact this)
  have GB : Hid (∀ W, Below w4.heap.size w4 W → Calls Tryz.prog 176 #[.agg #[.int .i64 d1.s, .slice d1.A d1.n d1.c, .int .i64 d1.z]] W fun e w' => e = .returned (.int .i64 bm) ∧ Below W.heap.size W w') := Lib.hid (fun W hW => by have := D.min_dom d1.val Bs W (HD1.out.below hW) (HT4.out.below hW); rw [← hbm] at this; exact this)
  have GC : Hid (∀ W, Below w4.heap.size w4 W → Calls Tryz.prog 98 #[.agg #[.int .i64 d0.s, .slice d0.A d0.n d0.c, .int .i64 d0.z]] W fun e w' => e = .returned (.int .i64 ax) ∧ Below W.heap.size W w') := Lib.hid (fun W hW => by have := D.max_dom d0.val A W (HD0.out.below hW); rw [← hax] at this; exact this)
  have GD : Hid (∀ W, Below w4.heap.size w4 W → Calls Tryz.prog 98 #[.agg #[.int .i64 d1.s, .slice d1.A d1.n d1.c, .int .i64 d1.z]] W fun e w' => e = .returned (.int .i64 bx) ∧ Below W.heap.size W w') := Lib.hid (fun W hW => by have := D.max_dom d1.val Bs W (HD1.out.below hW); rw [← hbx] at this; exact this)
  obtain ⟨lo, hlo⟩ : ∃ v, s am bm = v := ⟨_, rfl⟩
  obtain ⟨hi, hhi⟩ : ∃ v, s ax bx = v := ⟨_, rfl⟩
  have CG1 : Hid (∀ W, Below w4.heap.size w4 W → Calls Tryz.prog g #[.int .i64 am, .int .i64 bm] W fun e w' => e = .returned (.int .i64 lo) ∧ Below W.heap.size W w') := Lib.hid (fun W _ => (hs am bm W).mono (by rintro e w' ⟨rfl, rfl⟩; exact ⟨by rw [hlo], Below.refl _ _⟩))
  have CG2 : Hid (∀ W, Below w4.heap.size w4 W → Calls Tryz.prog g #[.int .i64 ax, .int .i64 bx] W fun e w' => e = .returned (.int .i64 hi) ∧ Below W.heap.size W w') := Lib.hid (fun W _ => (hs ax bx W).mono (by rintro e w' ⟨rfl, rfl⟩; exact ⟨by rw [hhi], Below.refl _ _⟩))
  have CL : Hid (∀ W, Below w4.heap.size w4 W → Calls Tryz.prog 175 #[.agg #[.int .i64 d2.s, .slice d2.A d2.n d2.c, .int .i64 d2.z], .int .i64 lo] W fun e w' => (∃ d : Dv, e = .returned (.tuple #[.agg #[.int .i64 d.s, .slice d.A d.n d.c, .int .i64 d.z], .int .i64 (D.chg C (C.filter fun u => decide (lo ≤ u)))]) ∧ IsDom w' d.val (C.filter fun u => decide (lo ≤ u))) ∧ Below W.heap.size W w') := Lib.hid (fun W hW => gives_dv (D.least_dom d2.val C lo W (HD2.out.below hW) (HT4.out.below hW)))
  rw [hlo, hhi]
  obtain ⟨C1, hC1⟩ : ∃ L, L = C.filter fun u => decide (lo ≤ u) := ⟨_, rfl⟩
  rw [← hC1] at CL ⊢
  have HC1 := Lib.hid hC1
  generalize D.chg C C1 = ch1 at CL
  have HS : Hid (∀ W, Below w4.heap.size w4 W → Below w4.heap.size w4 W ∧ W.cell? ⟨gx, ox, none⟩ = some (.int .i64 d0.s) ∧ W.cell? ⟨gx, ox + 1, none⟩ = some (.slice d0.A d0.n d0.c) ∧ W.cell? ⟨gx, ox + 2, none⟩ = some (.int .i64 d0.z) ∧ W.cell? ⟨gx, ox + 3, none⟩ = some (.int .i64 d1.s) ∧ W.cell? ⟨gx, ox + 3 + 1, none⟩ = some (.slice d1.A d1.n d1.c) ∧ W.cell? ⟨gx, ox + 3 + 2, none⟩ = some (.int .i64 d1.z) ∧ W.cell? ⟨gx, ox + 6, none⟩ = some (.int .i64 d2.s) ∧ W.cell? ⟨gx, ox + 6 + 1, none⟩ = some (.slice d2.A d2.n d2.c) ∧ W.cell? ⟨gx, ox + 6 + 2, none⟩ = some (.int .i64 d2.z)) := Lib.hid (fun W hW => by
    obtain ⟨p0, p1, p2, p3, p4, p5, p6, p7, p8⟩ := HP.out
    have k : ∀ {a : Addr} {u : Value}, w4.cell? a = some u → W.cell? a = some u := fun h => (hW.cell (World.block_lt_of_cell? _ _ h)).trans h
    exact ⟨hW, k p0, k p1, k p2, k p3, k p4, k p5, k p6, k p7, k p8⟩)
  have HP : Hid (∀ W, Below w4.heap.size w4 W → W.cell? ⟨gx, ox, none⟩ = some (.int .i64 d0.s) ∧ W.cell? ⟨gx, ox + 1, none⟩ = some (.slice d0.A d0.n d0.c) ∧ W.cell? ⟨gx, ox + 2, none⟩ = some (.int .i64 d0.z) ∧ W.cell? ⟨gx, ox + 3, none⟩ = some (.int .i64 d1.s) ∧ W.cell? ⟨gx, ox + 3 + 1, none⟩ = some (.slice d1.A d1.n d1.c) ∧ W.cell? ⟨gx, ox + 3 + 2, none⟩ = some (.int .i64 d1.z)) := Lib.hid (fun W hW => by
    obtain ⟨_, p0, p1, p2, p3, p4, p5, _⟩ := HS.out W hW
    exact ⟨p0, p1, p2, p3, p4, p5⟩)
  clear hD0 hD1 hD2 hD0' hD1' hD2' h h4 hT ex' ex'' p0 p1 p2 q0 q1 q2 r0 r1 r2 ham hax hbm hbx hlo hhi hs hC1 b4 n4 HD0 HD1 HD2
  go_enter Tryz.func174, Tryz.ntmps174
  go_upto_region 1 with fail
  clear hw4
  go_cut [5, 6] (fun p ch wx => ∃ (g1 : Nat) (d : Dv), p = .pointer (some ⟨g1, 0, none⟩) ∧ ch = .int .i64 ch1 ∧ Hid (VarD wx g1 d C1 ∧ w4.heap.size ≤ g1) ∧ Hid (Below w4.heap.size w4 wx))
  case first =>
    have hS := HS.out w4.drew (Below.refl _ _).drew
    go_region_held3 (fun W => Below w4.heap.size w4 W ∧ W.cell? ⟨gx, ox, none⟩ = some (.int .i64 d0.s) ∧ W.cell? ⟨gx, ox + 1, none⟩ = some (.slice d0.A d0.n d0.c) ∧ W.cell? ⟨gx, ox + 2, none⟩ = some (.int .i64 d0.z) ∧ W.cell? ⟨gx, ox + 3, none⟩ = some (.int .i64 d1.s) ∧ W.cell? ⟨gx, ox + 3 + 1, none⟩ = some (.slice d1.A d1.n d1.c) ∧ W.cell? ⟨gx, ox + 3 + 2, none⟩ = some (.int .i64 d1.z) ∧ W.cell? ⟨gx, ox + 6, none⟩ = some (.int .i64 d2.s) ∧ W.cell? ⟨gx, ox + 6 + 1, none⟩ = some (.slice d2.A d2.n d2.c) ∧ W.cell? ⟨gx, ox + 6 + 2, none⟩ = some (.int .i64 d2.z)) (first | with_reducible assumption | with_reducible exact hS9 | with_reducible exact HS.out _ (hS.1.alloc hS.1.size _) | with_reducible exact HS.out _ (((Below.refl w4.heap.size w4).alloc (Nat.le_refl _) _).drew))
      (first
        | (go_at_call 176; with_reducible refine (GA.out _ hS.1).mono ?_; rintro e w6 ⟨rfl, b6⟩; (first | (have HZ := Lib.hid (zk_old HZ.out b6)) | skip); have HB := Lib.hid ((hS.1).trans (b6.mono (hS.1).size)); clear b6; have hS := HS.out _ HB.out)
        | (go_at_call 176; with_reducible refine (GA.out _ (hS.1.alloc hS.1.size _)).mono ?_; rintro e w6 ⟨rfl, b6⟩; have HZ := Lib.hid (zk_new hS.1 rfl b6); have HB := Lib.hid (((hS.1.alloc hS.1.size _)).trans (b6.mono ((hS.1.alloc hS.1.size _)).size)); clear b6; have hS := HS.out _ HB.out)
        | (go_at_call 176; with_reducible refine (GA.out _ (((Below.refl w4.heap.size w4).alloc (Nat.le_refl _) _).drew)).mono ?_; rintro e w6 ⟨rfl, b6⟩; have HZ := Lib.hid (zk_new0 b6); have HB := Lib.hid (((((Below.refl w4.heap.size w4).alloc (Nat.le_refl _) _).drew)).trans (b6.mono ((((Below.refl w4.heap.size w4).alloc (Nat.le_refl _) _).drew)).size)); clear b6; have hS := HS.out _ HB.out)
        | (go_at_call 176; with_reducible refine (GB.out _ hS.1).mono ?_; rintro e w6 ⟨rfl, b6⟩; (first | (have HZ := Lib.hid (zk_old HZ.out b6)) | skip); have HB := Lib.hid ((hS.1).trans (b6.mono (hS.1).size)); clear b6; have hS := HS.out _ HB.out)
        | (go_at_call 176; with_reducible refine (GB.out _ (hS.1.alloc hS.1.size _)).mono ?_; rintro e w6 ⟨rfl, b6⟩; have HZ := Lib.hid (zk_new hS.1 rfl b6); have HB := Lib.hid (((hS.1.alloc hS.1.size _)).trans (b6.mono ((hS.1.alloc hS.1.size _)).size)); clear b6; have hS := HS.out _ HB.out)
        | (go_at_call 176; with_reducible refine (GB.out _ (((Below.refl w4.heap.size w4).alloc (Nat.le_refl _) _).drew)).mono ?_; rintro e w6 ⟨rfl, b6⟩; have HZ := Lib.hid (zk_new0 b6); have HB := Lib.hid (((((Below.refl w4.heap.size w4).alloc (Nat.le_refl _) _).drew)).trans (b6.mono ((((Below.refl w4.heap.size w4).alloc (Nat.le_refl _) _).drew)).size)); clear b6; have hS := HS.out _ HB.out)
        | (with_reducible refine (CG1.out _ hS.1).mono ?_; rintro e w6 ⟨rfl, b6⟩; (first | (have HZ := Lib.hid (zk_old HZ.out b6)) | skip); have HB := Lib.hid ((hS.1).trans (b6.mono (hS.1).size)); clear b6; have hS := HS.out _ HB.out)
        | (with_reducible refine (CG1.out _ (hS.1.alloc hS.1.size _)).mono ?_; rintro e w6 ⟨rfl, b6⟩; have HZ := Lib.hid (zk_new hS.1 rfl b6); have HB := Lib.hid (((hS.1.alloc hS.1.size _)).trans (b6.mono ((hS.1.alloc hS.1.size _)).size)); clear b6; have hS := HS.out _ HB.out)
        | (with_reducible refine (CG1.out _ (((Below.refl w4.heap.size w4).alloc (Nat.le_refl _) _).drew)).mono ?_; rintro e w6 ⟨rfl, b6⟩; have HZ := Lib.hid (zk_new0 b6); have HB := Lib.hid (((((Below.refl w4.heap.size w4).alloc (Nat.le_refl _) _).drew)).trans (b6.mono ((((Below.refl w4.heap.size w4).alloc (Nat.le_refl _) _).drew)).size)); clear b6; have hS := HS.out _ HB.out)
        | (go_at_call 175; with_reducible refine (CL.out _ hS.1).mono ?_; rintro e w9 ⟨⟨dv, rfl, hd9⟩, b9⟩; have HD9 := Lib.hid hd9; (first | (have HZ := Lib.hid (zk_old HZ.out b9)) | skip); have HB := Lib.hid ((hS.1).trans (b9.mono (hS.1).size)); clear b9; have hS := HS.out _ HB.out; (first | (have e0 := zk_cell HZ.out (j := 0) rfl; have e1 := zk_cell HZ.out (j := 1) rfl; have e2 := zk_cell HZ.out (j := 2) rfl; have f0 := zk_free HZ.out 0; have f1 := zk_free HZ.out 1; have f2 := zk_free HZ.out 2; have hS9 := HS.out _ (zk_put HB.out HZ.out (.int .i64 dv.s) (.slice dv.A dv.n dv.c) (.int .i64 dv.z))) | skip))
        | (go_at_call 175; with_reducible refine (CL.out _ (hS.1.alloc hS.1.size _)).mono ?_; rintro e w9 ⟨⟨dv, rfl, hd9⟩, b9⟩; have HD9 := Lib.hid hd9; have HZ := Lib.hid (zk_new hS.1 rfl b9); have HB := Lib.hid (((hS.1.alloc hS.1.size _)).trans (b9.mono ((hS.1.alloc hS.1.size _)).size)); clear b9; have hS := HS.out _ HB.out; (first | (have e0 := zk_cell HZ.out (j := 0) rfl; have e1 := zk_cell HZ.out (j := 1) rfl; have e2 := zk_cell HZ.out (j := 2) rfl; have f0 := zk_free HZ.out 0; have f1 := zk_free HZ.out 1; have f2 := zk_free HZ.out 2; have hS9 := HS.out _ (zk_put HB.out HZ.out (.int .i64 dv.s) (.slice dv.A dv.n dv.c) (.int .i64 dv.z))) | skip))
        | (go_at_call 175; with_reducible refine (CL.out _ (((Below.refl w4.heap.size w4).alloc (Nat.le_refl _) _).drew)).mono ?_; rintro e w9 ⟨⟨dv, rfl, hd9⟩, b9⟩; have HD9 := Lib.hid hd9; have HZ := Lib.hid (zk_new0 b9); have HB := Lib.hid (((((Below.refl w4.heap.size w4).alloc (Nat.le_refl _) _).drew)).trans (b9.mono ((((Below.refl w4.heap.size w4).alloc (Nat.le_refl _) _).drew)).size)); clear b9; have hS := HS.out _ HB.out; (first | (have e0 := zk_cell HZ.out (j := 0) rfl; have e1 := zk_cell HZ.out (j := 1) rfl; have e2 := zk_cell HZ.out (j := 2) rfl; have f0 := zk_free HZ.out 0; have f1 := zk_free HZ.out 1; have f2 := zk_free HZ.out 2; have hS9 := HS.out _ (zk_put HB.out HZ.out (.int .i64 dv.s) (.slice dv.A dv.n dv.c) (.int .i64 dv.z))) | skip)))
    all_goals
      first
        | go_wp2_with fail
        | skip
      go_meet
      case rel =>
        first
          | exact ⟨_, dv, rfl, rfl, Lib.hid ⟨zk_var HZ.out hd9, HZ.out.2⟩, Lib.hid (zk_put HB.out HZ.out _ _ _)⟩
          | exact ⟨_, dv, rfl, rfl, Lib.hid ⟨VarD.new hd9, HB.out.size⟩, Lib.hid (HB.out.trans ((below1 _ _).mono HB.out.size))⟩
  case rest =>
    clear HS CG1 GA GB CL
    obtain ⟨g1, dv, rfl, rfl, HV, HB⟩ := hcut
    obtain ⟨w5, rfl⟩ : ∃ w5, w5 = wc := ⟨_, rfl⟩
    have k0 := HV.out.1.c0
    have k1 := HV.out.1.c1
    have k2 := HV.out.1.c2
    have e0 := cell_regrown k0
    have e1 := cell_regrown k1
    have e2 := cell_regrown k2
    have HP5 := Lib.hid (fun W (hW : Below w5.heap.size w5 W) => HP.out W (HB.out.trans (hW.mono HB.out.size)))
    obtain ⟨p0, p1, p2, q0, q1, q2⟩ := HP5.out w5 (Below.refl _ _)
    have s0 := cell_regrown p0
    have s1 := cell_regrown p1
    have s2 := cell_regrown p2
    have t0 := cell_regrown q0
    have t1 := cell_regrown q1
    have t2 := cell_regrown q2
    have CA5 := Lib.hid (in_regrown' (w := w5) (fun W hW => GC.out W (HB.out.trans (hW.mono HB.out.size))))
    have CB5 := Lib.hid (in_regrown' (w := w5) (fun W hW => GD.out W (HB.out.trans (hW.mono HB.out.size))))
    have CG5 := Lib.hid (in_regrown' (w := w5) (fun W hW => CG2.out W (HB.out.trans (hW.mono HB.out.size))))
    have CM5 : Hid (∀ W, Below w5.heap.size w5 W → Calls Tryz.prog 177 #[.agg #[.int .i64 dv.s, .slice dv.A dv.n dv.c, .int .i64 dv.z], .int .i64 hi] W fun e w' => (∃ d : Dv, e = .returned (.tuple #[.agg #[.int .i64 d.s, .slice d.A d.n d.c, .int .i64 d.z], .int .i64 (D.chg C1 (C1.filter fun u => decide (u ≤ hi)))]) ∧ IsDom w' d.val (C1.filter fun u => decide (u ≤ hi))) ∧ Below W.heap.size W w') := Lib.hid (fun W hW => gives_dv (D.most_dom dv.val C1 hi W (HV.out.1.2.below hW) (HT4.out.below (HB.out.trans (hW.mono HB.out.size)))))
    generalize D.chg C1 (C1.filter fun u => decide (u ≤ hi)) = ch2 at CM5
    clear GC GD CG2 k0 k1 k2 p0 p1 p2 q0 q1 q2 HP HP5
    go_upto_region 2 with fail
    refine wp_region_below_any 11 #[true, true, true, true, true, true, true, true, true, true, true, false, false, false, false, false] (by kernel_rfl) (by kernel_rfl) ?_
    simp only [List.take_succ_cons, List.take_zero, List.length_cons, List.length_nil]
    repeat (first | go_big_quiet_step (first | (go_at_call 98; with_reducible exact CA5.out _ _) | (go_at_call 98; with_reducible exact CB5.out _ _) | (with_reducible exact CG5.out _ _)) | quiet_step (fail))
    refine wpQuiet_nil ?_
    intro _ hw'
    obtain ⟨⟨dq, osq⟩, hw''⟩ := hw'
    subst hw''
    have b6 := below_regrown w5 dq osq
    generalize grow (redrawn w5 dq) osq = w6 at *
    have V6 := Lib.hid (HV.out.1.below b6)
    have B6 := Lib.hid b6
    clear e0 e1 e2 s0 s1 s2 t0 t1 t2 CA5 CB5 CG5 b6
    refine wpAny_ready (rs := [11]) (by kernel_rfl) (by simp) (AllReady.cons rfl (fun K hK => ?_) AllReady.nil)
    go_simp
    go_wp2_with (go_at_call 177; refine (CM5.out _ B6.out).mono ?_; rintro e w7 ⟨⟨d7, rfl, hd7⟩, b7⟩; have HD7 := Lib.hid hd7; have V7 := Lib.hid (V6.out.below b7); have B7 := Lib.hid (B6.out.trans (b7.mono B6.out.size)); clear hd7 b7)
    refine wpAny_take (i := 12) (v := ?_) rfl (by kernel_rfl) (by kernel_rfl) (by kernel_rfl) (fun _ _ _ h => h) (Or.inl ⟨by rfl, ?_⟩) ?_
    rotate_left
    · intro w; go_simp; first | done | with_reducible rfl
    refine wpAny_take (i := 13) (v := ?_) rfl (by kernel_rfl) (by kernel_rfl) (by kernel_rfl) (fun _ _ _ h => h) (Or.inl ⟨by rfl, ?_⟩) ?_
    rotate_left
    · intro w; go_simp; first | done | with_reducible rfl
    refine wpAny_take (i := 14) (v := ?_) rfl (by kernel_rfl) (by kernel_rfl) (by kernel_rfl) (fun _ _ _ h => h) (Or.inl ⟨by rfl, ?_⟩) ?_
    rotate_left
    · intro w; go_simp; first | done | with_reducible rfl
    have c0 := V7.out.c0
    have c1 := V7.out.c1
    have c2 := V7.out.c2
    have f0 := box_free V7.out.1 0
    have f1 := box_free V7.out.1 1
    have f2 := box_free V7.out.1 2
    refine wpAny_ready (rs := [15]) (by kernel_rfl) (by simp) (AllReady.cons rfl (fun K hK => ?_) AllReady.nil)
    go_simp
    refine hK _ _ ?_
    clear hK K
    refine wpAny_done (by kernel_rfl) ?_ _
    obtain ⟨w8, hw8⟩ : ∃ w8, ((w7.setCell ⟨g1, 0, none⟩ (.int .i64 d7.s)).setCell ⟨g1, 1, none⟩ (.slice d7.A d7.n d7.c)).setCell ⟨g1, 2, none⟩ (.int .i64 d7.z) = w8 := ⟨_, rfl⟩
    rw [hw8]
    have v8 := V7.out.put HD7.out
    have b47 := HB.out.trans (B7.out.mono HB.out.size)
    have b8 := out_below b47 g1 HV.out.2 (.int .i64 d7.s) (.slice d7.A d7.n d7.c) (.int .i64 d7.z)
    have hne : w.heap.size ≠ g1 := by
      have h1 := HV.out.2
      have h2 := (Array.getElem?_eq_some_iff.1 HN4.out).1
      omega
    have r8 := (put3_far (W := w7) (x := .int .i64 d7.s) (y := .slice d7.A d7.n d7.c) (z := .int .i64 d7.z) hne).trans ((b47.block _ (Array.getElem?_eq_some_iff.1 HN4.out).1).trans HN4.out)
    rw [hw8] at v8 b8 r8
    have V8 := Lib.hid v8
    have B8 := Lib.hid (B04.out.trans (b8.mono B04.out.size))
    have HR8 := Lib.hid r8
    have k0 := v8.c0
    have k1 := v8.c1
    have k2 := v8.c2
    have e0 := box_cell r8 (j := 0) (x := .int .i64 0) rfl
    have e1 := box_cell r8 (j := 1) (x := .slice none 0 0) rfl
    have e2 := box_cell r8 (j := 2) (x := .int .i64 0) rfl
    have l0 := box_free r8 0
    have l1 := box_free r8 1
    have l2 := box_free r8 2
    clear hw8 v8 b47 b8 hne r8 c0 c1 c2 f0 f1 f2 V7 HD7 B7 V6 B6 CM5
    go_wp2_with fail
    obtain ⟨q0, q1, q2⟩ := out_cells w8 w.heap.size _ _ _ (.int .i64 d7.s) (.slice d7.A d7.n d7.c) (.int .i64 d7.z) e0 e1 e2
    refine bodyPost_ret (v := .agg #[.int .i64 d7.s, .slice d7.A d7.n d7.c, .int .i64 d7.z]) (by simp [results, Tryz.results174, go_sem, q0, q1, q2]) rfl ⟨⟨d7, rfl, ?_⟩, ?_⟩
    · exact V8.out.2.put3 HR8.out (plain_int _ _ (by decide)) (plain_sl _ _ _) (plain_int _ _ (by decide)) _ _ _ (plain_int _ _ (by decide)) (plain_sl _ _ _)
    · exact out_below B8.out _ (Nat.le_refl _) _ _ _
end Go.Proofs.YtkhmocbfkpbpfaaGreatDoor
