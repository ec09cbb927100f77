/- What the document's Make makes may be. No walk. Made by tools/genmkr.py. -/
import Derived.Test.YtcmdgjkoalophaaGreatDoorMul6
import Derived.Test.YtcmdgjkoalophaaGreatDoorMshapes
import Derived.Test.YtcmdgjkoalophaaGreatDoorMkmore
import Derived.Test.YtcmdgjkoalophaaGreatDoorMrefright
namespace Go.Proofs.YtcmdgjkoalophaaGreatDoor
open Go.RowKit Go.Sort

set_option maxHeartbeats 4000000 in
set_option maxRecDepth 100000 in
theorem mul_any (v : ConV) (c : ConL) (x : Sl) (D : List (List Int)) (w : World) (hE : EntIn w) (hT : TabZ w) (h : ConIn w v c) (hx : DomsIn w x D) :
    Calls Tryz.prog 43 #[v.val c.kind c.K, .slice x.A x.n x.c] w fun e w' => (∃ y : Sl, e = .returned (.tuple #[.slice y.A y.n y.c, .bool (mulE c D).isSome]) ∧ DomsIn w' y ((mulE c D).getD [])) ∧ Below w.heap.size w w' := by
  obtain ⟨wb, hwb⟩ : ∃ wb, cBox w v c.kind c.K = wb := ⟨_, rfl⟩
  have HR : Hid (RBox w.heap.size wb v c ⟨none, 0, 0⟩ [] ∧ Below w.heap.size w wb) := Lib.hid (hwb ▸ ⟨RBox.start h (IsInts.nil _), cBox_below _ _ _ _⟩)
  have HD := Lib.hid (hx.below HR.out.2)
  have HT := Lib.hid (hT.below HR.out.2)
  have CM := Lib.hid (mayMul_any v c x D wb (hE.below HR.out.2) HR.out.1.con HD.out)
  obtain ⟨R, hR⟩ : ∃ R, R = mulE c D := ⟨_, rfl⟩
  rw [← hR]
  have HWB := Lib.hid hwb
  have HB := Lib.hid HR.out.2
  have d0 := HR.out.1.c0
  have d1 := HR.out.1.c1
  have d2 := HR.out.1.c2
  have d3 := HR.out.1.c3
  have d4 := HR.out.1.c4
  have d5 := HR.out.1.c5
  have d6 := HR.out.1.c6
  have d7 := HR.out.1.c7
  have HRR := Lib.hid hR
  clear hwb h hx hE hT hR
  cases hf : fitsE c D 5 7 with
  | false =>
    rw [hf] at CM
    have HF : Hid (R = none) := Lib.hid (by rw [HRR.out]; unfold mulE; rw [if_neg (by rw [hf]; decide)])
    clear hf HRR
    go_enter Tryz.func43, Tryz.ntmps43
    go_upto_region 1 with fail
    change Code.wp _ _ _ _ (cBox w v c.kind c.K)
    rw [HWB.out]
    clear HWB
    go_wp2_with fail
    refine CM.out.mono ?_
    rintro e w1 ⟨rfl, b1⟩
    have B1 := Lib.hid (HB.out.trans (b1.mono HB.out.size))
    clear b1 CM d0 d1 d2 d3 d4 d5 d6 d7
    go_wp2_with fail
    go_ret2
    rw [HF.out]
    exact ⟨⟨⟨none, 0, 0⟩, rfl, DomsIn.nil _⟩, B1.out⟩
  | true =>
    rw [hf] at CM
    obtain ⟨A, Bs, C, hDD, hk, ha, hb, hc⟩ := fits_three hf
    have HV : Hid (R = if (mulL c.kind A Bs C).any (fun l => l.length == 0) = true then none else some (mulL c.kind A Bs C)) := Lib.hid (by rw [HRR.out]; unfold mulE; rw [if_pos hf, hDD]; rfl)
    rw [hDD] at HD
    have CF := Lib.hid (fun W (hW : Below wb.heap.size wb W) => mulFilter_any c.kind x A Bs C W hk (HD.out.below hW) (HT.out.below hW) ha hb)
    obtain ⟨L, hL⟩ : ∃ L, L = mulL c.kind A Bs C := ⟨_, rfl⟩
    rw [← hL] at HV CF
    clear hf HRR hDD hk ha hb hc hL HD HT
    go_enter Tryz.func43, Tryz.ntmps43
    go_upto_region 1 with fail
    change Code.wp _ _ _ _ (cBox w v c.kind c.K)
    rw [HWB.out]
    clear HWB
    go_wp2_with fail
    refine CM.out.mono ?_
    rintro e w1 ⟨rfl, b1⟩
    have B1 := Lib.hid b1
    have d0' := (b1.cell (World.block_lt_of_cell? _ _ d0)).trans d0
    clear b1 CM d0 d1 d2 d3 d4 d5 d6 d7
    go_wp2_with fail
    refine (CF.out w1 B1.out).mono ?_
    rintro e w2 ⟨⟨y, rfl, hy⟩, b2⟩
    have HY := Lib.hid hy
    have B2 := Lib.hid (HB.out.trans ((B1.out.trans (b2.mono B1.out.size)).mono HB.out.size))
    have CE := Lib.hid (anyEmpty_any y L w2 hy)
    clear hy b2 CF d0'
    cases ho : L.any (fun l => l.length == 0) with
    | false =>
      rw [ho] at CE
      have HF : Hid (R = some L) := Lib.hid (by rw [HV.out, ho]; rfl)
      clear ho HV
      go_wp2_with fail
      refine CE.out.mono ?_
      rintro e w3 ⟨rfl, b3⟩
      have B3 := Lib.hid (B2.out.trans (b3.mono B2.out.size))
      have HY3 := Lib.hid (HY.out.below b3)
      clear b3 CE
      go_wp2_with fail
      go_ret2
      rw [HF.out]
      exact ⟨⟨y, rfl, HY3.out⟩, B3.out⟩
    | true =>
      rw [ho] at CE
      have HF : Hid (R = none) := Lib.hid (by rw [HV.out, ho]; rfl)
      clear ho HV
      go_wp2_with fail
      refine CE.out.mono ?_
      rintro e w3 ⟨rfl, b3⟩
      have B3 := Lib.hid (B2.out.trans (b3.mono B2.out.size))
      clear b3 CE
      go_wp2_with fail
      go_ret2
      rw [HF.out]
      exact ⟨⟨⟨none, 0, 0⟩, rfl, DomsIn.nil _⟩, B3.out⟩
end Go.Proofs.YtcmdgjkoalophaaGreatDoor

namespace Go.Proofs.YtcmdgjkoalophaaGreatDoor
open Go.RowKit Go.Sort

def vOf (x : Sl) : ConV := ⟨x, ⟨none, 0, 0⟩, ⟨none, 0, 0⟩, ⟨none, 0, 0⟩, ⟨none, 0, 0⟩, ⟨none, 0, 0⟩⟩
def cOf (k : Int) (A : List Int) : ConL := ⟨k, A, [], [], [], [], 0, []⟩
theorem con_of {w : World} {x : Sl} {A : List Int} (k : Int) (h : IsInts w x A) : ConIn w (vOf x) (cOf k A) := ⟨h, IsInts.nil _, IsInts.nil _, IsInts.nil _, IsInts.nil _, IsRows.nil _⟩
theorem ints_made (w : World) (A : List Int) (n : Nat) (hn : n = A.length) (h : n ≤ 1000000) : IsInts (w.alloc (.cells (I A).toArray 3)) ⟨some ⟨w.heap.size, 0, none⟩, n, n⟩ A := by
  subst hn
  have := World.ownsRow_lit (base := w.heap.size) (e := 3) (size := 1) w (I A).toArray A.length (Nat.le_refl _) (by unfold maxLen; omega) (by simp [I])
  exact ints_own this (by omega)
theorem doms_build2 {W : World} {d1 d2 : Dv} {L1 L2 : List Int} (h1 : IsDom W d1.val L1) (h2 : IsDom W d2.val L2) :
    DomsIn (W.alloc (.cells (d1.cells ++ d2.cells).toArray 77)) ⟨some ⟨W.heap.size, 0, none⟩, 2, 2⟩ [L1, L2] := by
  have b := below1 W (.cells (d1.cells ++ d2.cells).toArray 77)
  have hn := heap_alloc_new W (.cells (d1.cells ++ d2.cells).toArray 77)
  refine ⟨rfl, by simp, Nat.le_refl _, fun _ => ⟨W.heap.size, 0, rfl, (Array.getElem?_eq_some_iff.1 hn).1, fun i hi => ?_⟩⟩
  have key : ∀ (d : Dv) (k : Nat), (∀ (j : Nat) (u : Value), d.cells[j]? = some u → (d1.cells ++ d2.cells)[k * 3 + j]? = some u) → ∀ (j : Nat) (u : Value), d.cells[j]? = some u → (W.alloc (.cells (d1.cells ++ d2.cells).toArray 77)).cell? ⟨W.heap.size, 0 + k * 3 + j, none⟩ = some u := by
    intro d k hk j u hj
    refine blk_cell hn ?_
    rw [Nat.zero_add, List.getElem?_toArray]
    exact hk j u hj
  have hlt3 : ∀ (d : Dv) (j : Nat) (u : Value), d.cells[j]? = some u → j < 3 := fun d j u hj => by
    have := (List.getElem?_eq_some_iff.1 hj).1
    simpa [Dv.cells] using this
  match i, hi with
  | 0, _ => exact ⟨d1, key d1 0 (fun j u hj => by have := hlt3 _ _ _ hj; match j, hj with | 0, hj => exact hj | 1, hj => exact hj | 2, hj => exact hj), h1.below b⟩
  | 1, _ => exact ⟨d2, key d2 1 (fun j u hj => by have := hlt3 _ _ _ hj; match j, hj with | 0, hj => exact hj | 1, hj => exact hj | 2, hj => exact hj), h2.below b⟩

/-- Where a domain lies in a variable. -/
def VarD (W : World) (g : Nat) (d : Dv) (L : List Int) : Prop := W.heap[g]? = some (.cells #[.int .i64 d.s, .slice d.A d.n d.c, .int .i64 d.z] 77 (0, 0)) ∧ IsDom W d.val L
theorem VarD.below {W W' : World} {g : Nat} {d : Dv} {L : List Int} (h : VarD W g d L) (b : Below W.heap.size W W') : VarD W' g d L := ⟨(b.block _ (Array.getElem?_eq_some_iff.1 h.1).1).trans h.1, h.2.below b⟩
theorem VarD.new {W : World} {d : Dv} {L : List Int} (h : IsDom W d.val L) : VarD (W.alloc (.cells #[.int .i64 d.s, .slice d.A d.n d.c, .int .i64 d.z] 77)) W.heap.size d L := ⟨heap_new W _, h.below (below1 W _)⟩
theorem VarD.c0 {W : World} {g : Nat} {d : Dv} {L : List Int} (h : VarD W g d L) : W.cell? ⟨g, 0, none⟩ = some (.int .i64 d.s) := blk_cell h.1 rfl
theorem VarD.c1 {W : World} {g : Nat} {d : Dv} {L : List Int} (h : VarD W g d L) : W.cell? ⟨g, 1, none⟩ = some (.slice d.A d.n d.c) := blk_cell h.1 rfl
theorem VarD.c2 {W : World} {g : Nat} {d : Dv} {L : List Int} (h : VarD W g d L) : W.cell? ⟨g, 2, none⟩ = some (.int .i64 d.z) := blk_cell h.1 rfl

theorem range_at (lo hi : Int) (L : List Int) (w : World) (h : (if rangeErr lo hi = 0 then rangeL lo hi else []) = L) : Calls Tryz.prog 76 #[.int .i64 lo, .int .i64 hi] w fun e w' => (∃ d : Dv, e = .returned (.tuple #[d.val, .int .i64 (rangeErr lo hi)]) ∧ IsDom w' d.val L) ∧ Below w.heap.size w w' := by
  have := range_dom lo hi w
  rw [h] at this
  refine this.mono ?_
  rintro e w1 ⟨d, rfl, hd, b⟩
  obtain ⟨dv, rfl, -⟩ := Dv.of hd
  exact ⟨⟨dv, rfl, hd⟩, b⟩
theorem same_base {W W' : World} {x : Sl} {L : List (List Int)} {g o : Nat} (b : Below W.heap.size W W') (h : DomsIn W x L) (e : x.A = some ⟨g, o, none⟩) (k : Nat) (hk : k < x.n) :
    ∃ d : Dv, W'.cell? ⟨g, o + k * 3, none⟩ = some (.int .i64 d.s) ∧ W'.cell? ⟨g, o + k * 3 + 1, none⟩ = some (.slice d.A d.n d.c) ∧ W'.cell? ⟨g, o + k * 3 + 2, none⟩ = some (.int .i64 d.z) ∧ IsDom W' d.val (L.getD k []) := by
  obtain ⟨g', o', d, e', p0, p1, p2, hD⟩ := (h.below b).at_ k hk
  rw [e] at e'
  injection e' with e'
  injection e' with e1 e2 _
  subst e1
  subst e2
  exact ⟨d, p0, p1, p2, hD⟩
theorem mulE_wake : mulE (cOf 5 [0, 1, 2]) [[2, 3], [4, 5], [0, 1, 2, 3, 4, 5, 6, 7, 8, 9, 10]] = some [[2], [4, 5], [8, 10]] := by kernel_rfl
theorem mulE_sleep (D : List (List Int)) : mulE (cOf 8 [0, 1]) D = none := by
  unfold mulE
  rw [if_neg]
  unfold fitsE cOf
  simp

set_option maxHeartbeats 4000000 in
set_option maxRecDepth 100000 in
theorem mulWakes_any (w : World) (hE : EntIn w) (hT : TabZ w) : Calls Tryz.prog 46 #[] w fun e w' => e = .returned (.bool true) ∧ Below w.heap.size w w' := by
  have HE := Lib.hid hE
  have HT := Lib.hid hT
  have C1 := Lib.hid (range_at 2 3 [2, 3] w (by decide))
  clear hE hT
  go_enter Tryz.func46, Tryz.ntmps46
  go_wp2_with fail
  refine C1.out.mono ?_
  rintro e w1 ⟨⟨d1, rfl, k1⟩, b1⟩
  have b2 := below1 w1 (.cells #[.int .i64 d1.s, .slice d1.A d1.n d1.c, .int .i64 d1.z] 77)
  have V1 := VarD.new k1
  have B2 := Lib.hid (b1.trans (b2.mono b1.size))
  obtain ⟨w2, hw2⟩ : ∃ w2, w1.alloc (.cells #[.int .i64 d1.s, .slice d1.A d1.n d1.c, .int .i64 d1.z] 77) = w2 := ⟨_, rfl⟩
  rw [hw2] at V1 B2
  obtain ⟨g1, hg1⟩ : ∃ g1, g1 = w1.heap.size := ⟨_, rfl⟩
  rw [← hg1] at V1
  have HV1 := Lib.hid V1
  have C2 := Lib.hid (range_at 4 5 [4, 5] w2 (by decide))
  clear C1 k1 b1 b2 V1
  go_upto_region 2 with fail
  clear hw2
  rw [← hg1]
  clear hg1
  go_wp2_with fail
  refine C2.out.mono ?_
  rintro e w3 ⟨⟨d2, rfl, k3⟩, b3⟩
  have b4 := below1 w3 (.cells #[.int .i64 d2.s, .slice d2.A d2.n d2.c, .int .i64 d2.z] 77)
  have V2 := VarD.new k3
  have b24 := b3.trans (b4.mono b3.size)
  have B4 := Lib.hid (B2.out.trans (b24.mono B2.out.size))
  have V1 := HV1.out.below b24
  obtain ⟨w4, hw4⟩ : ∃ w4, w3.alloc (.cells #[.int .i64 d2.s, .slice d2.A d2.n d2.c, .int .i64 d2.z] 77) = w4 := ⟨_, rfl⟩
  rw [hw4] at V2 B4 V1
  obtain ⟨g2, hg2⟩ : ∃ g2, g2 = w3.heap.size := ⟨_, rfl⟩
  rw [← hg2] at V2
  have HV1' := Lib.hid V1
  have HV2 := Lib.hid V2
  have C3 := Lib.hid (range_at 0 10 [0, 1, 2, 3, 4, 5, 6, 7, 8, 9, 10] w4 (by decide))
  clear C2 k3 b3 b4 b24 V1 V2 HV1 B2
  go_upto_region 3 with fail
  clear hw4
  rw [← hg2]
  clear hg2
  go_wp2_with fail
  refine C3.out.mono ?_
  rintro e w5 ⟨⟨d3, rfl, k5⟩, b5⟩
  have b6 := below1 w5 (.cells #[.int .i64 d3.s, .slice d3.A d3.n d3.c, .int .i64 d3.z] 77)
  have V3 := VarD.new k5
  have b46 := b5.trans (b6.mono b5.size)
  have B6 := Lib.hid (B4.out.trans (b46.mono B4.out.size))
  have V1 := HV1'.out.below b46
  have V2 := HV2.out.below b46
  obtain ⟨w6, hw6⟩ : ∃ w6, w5.alloc (.cells #[.int .i64 d3.s, .slice d3.A d3.n d3.c, .int .i64 d3.z] 77) = w6 := ⟨_, rfl⟩
  rw [hw6] at V3 B6 V1 V2
  obtain ⟨g3, hg3⟩ : ∃ g3, g3 = w5.heap.size := ⟨_, rfl⟩
  rw [← hg3] at V3
  clear C3 k5 b5 b6 b46 HV1' HV2 B4
  go_upto_region 4 with fail
  clear hw6
  rw [← hg3]
  clear hg3
  obtain ⟨w7, hw7⟩ : ∃ w7, w6.alloc (.cells #[.int .i64 0, .int .i64 1, .int .i64 2] 3) = w7 := ⟨_, rfl⟩
  have I7 : IsInts w7 ⟨some ⟨w6.heap.size, 0, none⟩, 3, 3⟩ [0, 1, 2] := hw7 ▸ ints_made w6 [0, 1, 2] 3 rfl (by omega)
  have b67 : Below w6.heap.size w6 w7 := hw7 ▸ below1 w6 _
  have W1 := V1.below b67
  have W2 := V2.below b67
  have W3 := V3.below b67
  have B7 := Lib.hid (B6.out.trans (b67.mono B6.out.size))
  have p0 := W1.c0
  have p1 := W1.c1
  have p2 := W1.c2
  have q0 := W2.c0
  have q1 := W2.c1
  have q2 := W2.c2
  have r0 := W3.c0
  have r1 := W3.c1
  have r2 := W3.c2
  have HD8 := Lib.hid (doms_build3 W1.2 W2.2 W3.2)
  obtain ⟨w8, hw8⟩ : ∃ w8, w7.alloc (.cells (d1.cells ++ d2.cells ++ d3.cells).toArray 77) = w8 := ⟨_, rfl⟩
  rw [hw8] at HD8
  have b78 : Below w7.heap.size w7 w8 := hw8 ▸ below1 w7 _
  have HW1 := Lib.hid (W1.below b78)
  have HW2 := Lib.hid (W2.below b78)
  have B8 := Lib.hid (B7.out.trans (b78.mono B7.out.size))
  have CF := mul_any (vOf ⟨some ⟨w6.heap.size, 0, none⟩, 3, 3⟩) (cOf 5 [0, 1, 2]) _ _ w8 (HE.out.below B8.out) (HT.out.below B8.out) (con_of 5 (I7.below b78)) HD8.out
  rw [mulE_wake] at CF
  have CF : Hid (Calls Tryz.prog 43 #[.agg #[.int .i64 5, .slice (some ⟨w6.heap.size, 0, none⟩) 3 3, .slice none 0 0, .slice none 0 0, .slice none 0 0, .slice none 0 0, .int .i64 0, .slice none 0 0], .slice (some ⟨w7.heap.size, 0, none⟩) 3 3] w8 fun e w' => (∃ y : Sl, e = .returned (.tuple #[.slice y.A y.n y.c, .bool true]) ∧ DomsIn w' y [[2], [4, 5], [8, 10]]) ∧ Below w8.heap.size w8 w') := Lib.hid CF
  have hw8' : w7.alloc (.cells #[.int .i64 d1.s, .slice d1.A d1.n d1.c, .int .i64 d1.z, .int .i64 d2.s, .slice d2.A d2.n d2.c, .int .i64 d2.z, .int .i64 d3.s, .slice d3.A d3.n d3.c, .int .i64 d3.z] 77) = w8 := hw8
  clear V1 V2 V3 W1 W2 W3 I7 b67 b78 B6 B7 HD8 hw8
  go_wp2_with fail
  refine CF.out.mono ?_
  rintro e w9 ⟨⟨y, rfl, hy⟩, b9⟩
  have HY := Lib.hid hy
  have W1 := HW1.out.below b9
  have W2 := HW2.out.below b9
  have B9 := Lib.hid (B8.out.trans (b9.mono B8.out.size))
  clear CF hw7 hw8' hy b9 HW1 HW2 B8 p0 p1 p2 q0 q1 q2 r0 r1 r2
  obtain ⟨wa, hwa⟩ : ∃ wa, w9.alloc (.cells #[.int .i64 0, .int .i64 1] 3) = wa := ⟨_, rfl⟩
  have Ia : IsInts wa ⟨some ⟨w9.heap.size, 0, none⟩, 2, 2⟩ [0, 1] := hwa ▸ ints_made w9 [0, 1] 2 rfl (by omega)
  have b9a : Below w9.heap.size w9 wa := hwa ▸ below1 w9 _
  have X1 := W1.below b9a
  have X2 := W2.below b9a
  have p0 := X1.c0
  have p1 := X1.c1
  have p2 := X1.c2
  have q0 := X2.c0
  have q1 := X2.c1
  have q2 := X2.c2
  have HDb := Lib.hid (doms_build2 X1.2 X2.2)
  obtain ⟨wb, hwb⟩ : ∃ wb, wa.alloc (.cells (d1.cells ++ d2.cells).toArray 77) = wb := ⟨_, rfl⟩
  rw [hwb] at HDb
  have bab : Below wa.heap.size wa wb := hwb ▸ below1 wa _
  have b9b := b9a.trans (bab.mono b9a.size)
  have HYb := Lib.hid (HY.out.below b9b)
  have Bb := Lib.hid (B9.out.trans (b9b.mono B9.out.size))
  have CF := mul_any (vOf ⟨some ⟨w9.heap.size, 0, none⟩, 2, 2⟩) (cOf 8 [0, 1]) _ _ wb (HE.out.below Bb.out) (HT.out.below Bb.out) (con_of 8 (Ia.below bab)) HDb.out
  rw [mulE_sleep] at CF
  have CF : Hid (Calls Tryz.prog 43 #[.agg #[.int .i64 8, .slice (some ⟨w9.heap.size, 0, none⟩) 2 2, .slice none 0 0, .slice none 0 0, .slice none 0 0, .slice none 0 0, .int .i64 0, .slice none 0 0], .slice (some ⟨wa.heap.size, 0, none⟩) 2 2] wb fun e w' => (∃ y : Sl, e = .returned (.tuple #[.slice y.A y.n y.c, .bool false]) ∧ DomsIn w' y []) ∧ Below wb.heap.size wb w') := Lib.hid CF
  have hwb' : wa.alloc (.cells #[.int .i64 d1.s, .slice d1.A d1.n d1.c, .int .i64 d1.z, .int .i64 d2.s, .slice d2.A d2.n d2.c, .int .i64 d2.z] 77) = wb := hwb
  clear W1 W2 X1 X2 Ia b9a bab b9b HY HDb hwb
  go_wp2_with fail
  refine CF.out.mono ?_
  rintro e wc ⟨⟨y2, rfl, -⟩, bc⟩
  have HYc := Lib.hid (HYb.out.below bc)
  have Bc := Lib.hid (Bb.out.trans (bc.mono Bb.out.size))
  clear CF hwa hwb' bc HYb B9 Bb p0 p1 p2 q0 q1 q2
  have hyn : y.n = 3 := HYc.out.len
  obtain ⟨g, o, e0, ex, p0, p1, p2, h0⟩ := HYc.out.at_ 0 (by omega)
  have E0 : Hid (IsDom wc e0.val [2]) := Lib.hid h0
  rw [Nat.zero_mul, Nat.add_zero] at p0 p1 p2
  have CS := Lib.hid (D.size_dom e0.val [2] wc E0.out)
  rw [ex]
  clear h0
  go_wp2_with fail
  refine CS.out.mono ?_
  rintro e wd ⟨rfl, bd⟩
  have HYd := Lib.hid (HYc.out.below bd)
  have Bd := Lib.hid (Bc.out.trans (bd.mono Bc.out.size))
  clear CS bd p0 p1 p2 E0
  obtain ⟨e1, q0, q1, q2, h1⟩ := same_base (Below.refl _ _) HYd.out ex 1 (by omega)
  have E1 : Hid (IsDom wd e1.val [4, 5]) := Lib.hid h1
  rw [Nat.one_mul] at q0 q1 q2
  have CS := Lib.hid (D.size_dom e1.val [4, 5] wd E1.out)
  clear h1
  go_wp2_with fail
  refine CS.out.mono ?_
  rintro e we ⟨rfl, be⟩
  have HYe := Lib.hid (HYd.out.below be)
  have Be := Lib.hid (Bd.out.trans (be.mono Bd.out.size))
  clear CS be q0 q1 q2 E1
  obtain ⟨e2, r0, r1, r2, h2⟩ := same_base (Below.refl _ _) HYe.out ex 2 (by omega)
  have E2 : Hid (IsDom we e2.val [8, 10]) := Lib.hid h2
  have r0 : we.cell? ⟨g, o + 6, none⟩ = some (.int .i64 e2.s) := r0
  have r1 : we.cell? ⟨g, o + 6 + 1, none⟩ = some (.slice e2.A e2.n e2.c) := r1
  have r2 : we.cell? ⟨g, o + 6 + 2, none⟩ = some (.int .i64 e2.z) := r2
  have CL := Lib.hid (list_dom e2.val [8, 10] we E2.out (HT.out.below Be.out))
  clear h2
  go_wp2_with fail
  refine CL.out.mono ?_
  rintro e wf ⟨v, rfl, hv, bf⟩
  obtain ⟨YA, kA, rfl⟩ := slice_row hv
  have Bf := Lib.hid (Be.out.trans (bf.mono Be.out.size))
  have If : IsInts wf ⟨YA, 2, kA⟩ [8, 10] := ints_own (y := ⟨YA, 2, kA⟩) hv (by simp)
  have bg := below1 wf (.cells #[.int .i64 8, .int .i64 10] 3)
  have Jg : IsInts (wf.alloc (.cells #[.int .i64 8, .int .i64 10] 3)) ⟨some ⟨wf.heap.size, 0, none⟩, 2, 2⟩ [8, 10] := ints_made wf [8, 10] 2 rfl (by omega)
  have Bg := Lib.hid (Bf.out.trans (bg.mono Bf.out.size))
  have CQ := gequal_ints ⟨YA, 2, kA⟩ ⟨some ⟨wf.heap.size, 0, none⟩, 2, 2⟩ [8, 10] [8, 10] _ (If.below bg) Jg
  have CQ : Hid (Calls Tryz.prog 103 #[.slice YA 2 kA, .slice (some ⟨wf.heap.size, 0, none⟩) 2 2] (wf.alloc (.cells #[.int .i64 8, .int .i64 10] 3)) fun e w' => e = .returned (.bool true) ∧ Below (wf.alloc (.cells #[.int .i64 8, .int .i64 10] 3)).heap.size (wf.alloc (.cells #[.int .i64 8, .int .i64 10] 3)) w') := Lib.hid CQ
  clear CL hv bf r0 r1 r2 E2 If Jg bg
  go_wp2_with fail
  refine CQ.out.mono ?_
  rintro e wh ⟨rfl, bh⟩
  have Bh := Lib.hid (Bg.out.trans (bh.mono Bg.out.size))
  clear CQ bh
  go_wp2_with fail
  go_ret
  exact ⟨rfl, Bh.out⟩
end Go.Proofs.YtcmdgjkoalophaaGreatDoor

namespace Go.Proofs.YtcmdgjkoalophaaGreatDoor
open Go.RowKit

set_option linter.unusedSimpArgs false in
set_option linter.unusedVariables false in
theorem mk_arity1 (la lb lc : List Int) (K ch vars : Int) (n : Nat) (hb : 1 ≤ n ∧ n ≤ 4) : arityB (s9 lc n (s8 lc K ch (s7 lc n (s6 K 1 (s5 lc (s4 lc 1 n (s3 lb vars 0 n (s2 lb vars 0 (s1 la vars n 1))))))))) ⟨(shapesL.getD 1 []).toArray⟩ = true := by
  have e : shapesL.getD 1 [] = [99, 86, 107] := by kernel_rfl
  rw [e]
  have h3 := Nat.mod_lt lc.length (show 0 < 3 by decide)
  have h5 := Nat.mod_lt lc.length (show 0 < 5 by decide)
  have h6 := Nat.mod_lt lc.length (show 0 < 6 by decide)
  simp [s1, s2, s3, s4, s5, s6, s7, s8, s9, arityB, mkL_len, cntI, lenI, listB, bl, rowF]
  all_goals first | omega | (intros; omega)

set_option linter.unusedSimpArgs false in
set_option linter.unusedVariables false in
theorem mk_arity2 (la lb lc : List Int) (K ch vars : Int) (n : Nat) (hb : 1 ≤ n ∧ n ≤ 4) : arityB (s9 lc n (s8 lc K ch (s7 lc n (s6 K 1 (s5 lc (s4 lc 1 n (s3 lb vars 0 n (s2 lb vars 0 (s1 la vars n 2))))))))) ⟨(shapesL.getD 2 []).toArray⟩ = true := by
  have e : shapesL.getD 2 [] = [99, 86, 107] := by kernel_rfl
  rw [e]
  have h3 := Nat.mod_lt lc.length (show 0 < 3 by decide)
  have h5 := Nat.mod_lt lc.length (show 0 < 5 by decide)
  have h6 := Nat.mod_lt lc.length (show 0 < 6 by decide)
  simp [s1, s2, s3, s4, s5, s6, s7, s8, s9, arityB, mkL_len, cntI, lenI, listB, bl, rowF]
  all_goals first | omega | (intros; omega)

set_option linter.unusedSimpArgs false in
set_option linter.unusedVariables false in
theorem mk_arity3 (la lb lc : List Int) (K ch vars : Int) (n : Nat) (hb : 1 ≤ n ∧ n ≤ 4) : arityB (s9 lc n (s8 lc K ch (s7 lc n (s6 K 1 (s5 lc (s4 lc 1 n (s3 lb vars 0 n (s2 lb vars 0 (s1 la vars n 3))))))))) ⟨(shapesL.getD 3 []).toArray⟩ = true := by
  have e : shapesL.getD 3 [] = [99, 86, 107] := by kernel_rfl
  rw [e]
  have h3 := Nat.mod_lt lc.length (show 0 < 3 by decide)
  have h5 := Nat.mod_lt lc.length (show 0 < 5 by decide)
  have h6 := Nat.mod_lt lc.length (show 0 < 6 by decide)
  simp [s1, s2, s3, s4, s5, s6, s7, s8, s9, arityB, mkL_len, cntI, lenI, listB, bl, rowF]
  all_goals first | omega | (intros; omega)

set_option linter.unusedSimpArgs false in
set_option linter.unusedVariables false in
theorem mk_arity4 (la lb lc : List Int) (K ch vars : Int) (n : Nat) (hb : 1 ≤ n ∧ n ≤ 4) : arityB (s9 lc n (s8 lc K ch (s7 lc n (s6 K 1 (s5 lc (s4 lc 1 n (s3 lb vars 0 n (s2 lb vars 1 (s1 la vars n 4))))))))) ⟨(shapesL.getD 4 []).toArray⟩ = true := by
  have e : shapesL.getD 4 [] = [99, 86, 107, 119] := by kernel_rfl
  rw [e]
  have h3 := Nat.mod_lt lc.length (show 0 < 3 by decide)
  have h5 := Nat.mod_lt lc.length (show 0 < 5 by decide)
  have h6 := Nat.mod_lt lc.length (show 0 < 6 by decide)
  simp [s1, s2, s3, s4, s5, s6, s7, s8, s9, arityB, mkL_len, cntI, lenI, listB, bl, rowF]
  all_goals first | omega | (intros; omega)

set_option linter.unusedSimpArgs false in
set_option linter.unusedVariables false in
theorem mk_arity5 (la lb lc : List Int) (K ch vars : Int) : arityB (s9 lc 3 (s8 lc K ch (s7 lc 3 (s6 K 0 (s5 lc (s4 lc 0 3 (s3 lb vars 0 3 (s2 lb vars 0 (s1 la vars 3 5))))))))) ⟨(shapesL.getD 5 []).toArray⟩ = true := by
  have e : shapesL.getD 5 [] = [118, 118, 118] := by kernel_rfl
  rw [e]
  have h3 := Nat.mod_lt lc.length (show 0 < 3 by decide)
  have h5 := Nat.mod_lt lc.length (show 0 < 5 by decide)
  have h6 := Nat.mod_lt lc.length (show 0 < 6 by decide)
  simp [s1, s2, s3, s4, s5, s6, s7, s8, s9, arityB, mkL_len, cntI, lenI, listB, bl, rowF]
  all_goals first | omega | (intros; omega)

set_option linter.unusedSimpArgs false in
set_option linter.unusedVariables false in
theorem mk_arity6 (la lb lc : List Int) (K ch vars : Int) : arityB (s9 lc 3 (s8 lc K ch (s7 lc 3 (s6 K 0 (s5 lc (s4 lc 0 3 (s3 lb vars 0 3 (s2 lb vars 0 (s1 la vars 3 6))))))))) ⟨(shapesL.getD 6 []).toArray⟩ = true := by
  have e : shapesL.getD 6 [] = [118, 118, 118] := by kernel_rfl
  rw [e]
  have h3 := Nat.mod_lt lc.length (show 0 < 3 by decide)
  have h5 := Nat.mod_lt lc.length (show 0 < 5 by decide)
  have h6 := Nat.mod_lt lc.length (show 0 < 6 by decide)
  simp [s1, s2, s3, s4, s5, s6, s7, s8, s9, arityB, mkL_len, cntI, lenI, listB, bl, rowF]
  all_goals first | omega | (intros; omega)

set_option linter.unusedSimpArgs false in
set_option linter.unusedVariables false in
theorem mk_arity7 (la lb lc : List Int) (K ch vars : Int) : arityB (s9 lc 3 (s8 lc K ch (s7 lc 3 (s6 K 0 (s5 lc (s4 lc 0 3 (s3 lb vars 0 3 (s2 lb vars 0 (s1 la vars 3 7))))))))) ⟨(shapesL.getD 7 []).toArray⟩ = true := by
  have e : shapesL.getD 7 [] = [118, 118, 118] := by kernel_rfl
  rw [e]
  have h3 := Nat.mod_lt lc.length (show 0 < 3 by decide)
  have h5 := Nat.mod_lt lc.length (show 0 < 5 by decide)
  have h6 := Nat.mod_lt lc.length (show 0 < 6 by decide)
  simp [s1, s2, s3, s4, s5, s6, s7, s8, s9, arityB, mkL_len, cntI, lenI, listB, bl, rowF]
  all_goals first | omega | (intros; omega)

set_option linter.unusedSimpArgs false in
set_option linter.unusedVariables false in
theorem mk_arity8 (la lb lc : List Int) (K ch vars : Int) : arityB (s9 lc 2 (s8 lc K ch (s7 lc 2 (s6 K 0 (s5 lc (s4 lc 0 2 (s3 lb vars 0 2 (s2 lb vars 0 (s1 la vars 2 8))))))))) ⟨(shapesL.getD 8 []).toArray⟩ = true := by
  have e : shapesL.getD 8 [] = [118, 118] := by kernel_rfl
  rw [e]
  have h3 := Nat.mod_lt lc.length (show 0 < 3 by decide)
  have h5 := Nat.mod_lt lc.length (show 0 < 5 by decide)
  have h6 := Nat.mod_lt lc.length (show 0 < 6 by decide)
  simp [s1, s2, s3, s4, s5, s6, s7, s8, s9, arityB, mkL_len, cntI, lenI, listB, bl, rowF]
  all_goals first | omega | (intros; omega)

set_option linter.unusedSimpArgs false in
set_option linter.unusedVariables false in
theorem mk_arity9 (la lb lc : List Int) (K ch vars : Int) : arityB (s9 lc 3 (s8 lc K ch (s7 lc 3 (s6 K 0 (s5 lc (s4 lc 0 3 (s3 lb vars 0 3 (s2 lb vars 0 (s1 la vars 3 9))))))))) ⟨(shapesL.getD 9 []).toArray⟩ = true := by
  have e : shapesL.getD 9 [] = [118, 118, 118] := by kernel_rfl
  rw [e]
  have h3 := Nat.mod_lt lc.length (show 0 < 3 by decide)
  have h5 := Nat.mod_lt lc.length (show 0 < 5 by decide)
  have h6 := Nat.mod_lt lc.length (show 0 < 6 by decide)
  simp [s1, s2, s3, s4, s5, s6, s7, s8, s9, arityB, mkL_len, cntI, lenI, listB, bl, rowF]
  all_goals first | omega | (intros; omega)

set_option linter.unusedSimpArgs false in
set_option linter.unusedVariables false in
theorem mk_arity10 (la lb lc : List Int) (K ch vars : Int) : arityB (s9 lc 3 (s8 lc K ch (s7 lc 3 (s6 K 0 (s5 lc (s4 lc 0 3 (s3 lb vars 0 3 (s2 lb vars 0 (s1 la vars 3 10))))))))) ⟨(shapesL.getD 10 []).toArray⟩ = true := by
  have e : shapesL.getD 10 [] = [118, 118, 118] := by kernel_rfl
  rw [e]
  have h3 := Nat.mod_lt lc.length (show 0 < 3 by decide)
  have h5 := Nat.mod_lt lc.length (show 0 < 5 by decide)
  have h6 := Nat.mod_lt lc.length (show 0 < 6 by decide)
  simp [s1, s2, s3, s4, s5, s6, s7, s8, s9, arityB, mkL_len, cntI, lenI, listB, bl, rowF]
  all_goals first | omega | (intros; omega)

set_option linter.unusedSimpArgs false in
set_option linter.unusedVariables false in
theorem mk_arity11 (la lb lc : List Int) (K ch vars : Int) : arityB (s9 lc 2 (s8 lc K ch (s7 lc 2 (s6 K 0 (s5 lc (s4 lc 1 2 (s3 lb vars 0 2 (s2 lb vars 0 (s1 la vars 2 11))))))))) ⟨(shapesL.getD 11 []).toArray⟩ = true := by
  have e : shapesL.getD 11 [] = [118, 99, 118] := by kernel_rfl
  rw [e]
  have h3 := Nat.mod_lt lc.length (show 0 < 3 by decide)
  have h5 := Nat.mod_lt lc.length (show 0 < 5 by decide)
  have h6 := Nat.mod_lt lc.length (show 0 < 6 by decide)
  simp [s1, s2, s3, s4, s5, s6, s7, s8, s9, arityB, mkL_len, cntI, lenI, listB, bl, rowF]
  all_goals first | omega | (intros; omega)

set_option linter.unusedSimpArgs false in
set_option linter.unusedVariables false in
theorem mk_arity12 (la lb lc : List Int) (K ch vars : Int) (n : Nat) (hb : 1 ≤ n ∧ n ≤ 4) : arityB (s9 lc n (s8 lc K ch (s7 lc n (s6 K 0 (s5 lc (s4 lc 0 n (s3 lb vars 1 n (s2 lb vars 0 (s1 la vars n 12))))))))) ⟨(shapesL.getD 12 []).toArray⟩ = true := by
  have e : shapesL.getD 12 [] = [86, 87] := by kernel_rfl
  rw [e]
  have h3 := Nat.mod_lt lc.length (show 0 < 3 by decide)
  have h5 := Nat.mod_lt lc.length (show 0 < 5 by decide)
  have h6 := Nat.mod_lt lc.length (show 0 < 6 by decide)
  simp [s1, s2, s3, s4, s5, s6, s7, s8, s9, arityB, mkL_len, cntI, lenI, listB, bl, rowF]
  all_goals first | omega | (intros; omega)

set_option linter.unusedSimpArgs false in
set_option linter.unusedVariables false in
theorem mk_arity13 (la lb lc : List Int) (K ch vars : Int) : arityB (s9 lc 1 (s8 lc K ch (s7 lc 1 (s6 K 1 (s5 lc (s4 lc 0 1 (s3 lb vars 0 1 (s2 lb vars 1 (s1 la vars 1 13))))))))) ⟨(shapesL.getD 13 []).toArray⟩ = true := by
  have e : shapesL.getD 13 [] = [118, 107, 119] := by kernel_rfl
  rw [e]
  have h3 := Nat.mod_lt lc.length (show 0 < 3 by decide)
  have h5 := Nat.mod_lt lc.length (show 0 < 5 by decide)
  have h6 := Nat.mod_lt lc.length (show 0 < 6 by decide)
  simp [s1, s2, s3, s4, s5, s6, s7, s8, s9, arityB, mkL_len, cntI, lenI, listB, bl, rowF]
  all_goals first | omega | (intros; omega)

set_option linter.unusedSimpArgs false in
set_option linter.unusedVariables false in
theorem mk_arity14 (la lb lc : List Int) (K ch vars : Int) : arityB (s9 lc 1 (s8 lc K ch (s7 lc 1 (s6 K 1 (s5 lc (s4 lc 0 1 (s3 lb vars 0 1 (s2 lb vars 1 (s1 la vars 1 14))))))))) ⟨(shapesL.getD 14 []).toArray⟩ = true := by
  have e : shapesL.getD 14 [] = [118, 107, 119] := by kernel_rfl
  rw [e]
  have h3 := Nat.mod_lt lc.length (show 0 < 3 by decide)
  have h5 := Nat.mod_lt lc.length (show 0 < 5 by decide)
  have h6 := Nat.mod_lt lc.length (show 0 < 6 by decide)
  simp [s1, s2, s3, s4, s5, s6, s7, s8, s9, arityB, mkL_len, cntI, lenI, listB, bl, rowF]
  all_goals first | omega | (intros; omega)

set_option linter.unusedSimpArgs false in
set_option linter.unusedVariables false in
theorem mk_arity15 (la lb lc : List Int) (K ch vars : Int) : arityB (s9 lc 1 (s8 lc K ch (s7 lc 1 (s6 K 1 (s5 lc (s4 lc 0 1 (s3 lb vars 0 1 (s2 lb vars 1 (s1 la vars 1 15))))))))) ⟨(shapesL.getD 15 []).toArray⟩ = true := by
  have e : shapesL.getD 15 [] = [118, 107, 119] := by kernel_rfl
  rw [e]
  have h3 := Nat.mod_lt lc.length (show 0 < 3 by decide)
  have h5 := Nat.mod_lt lc.length (show 0 < 5 by decide)
  have h6 := Nat.mod_lt lc.length (show 0 < 6 by decide)
  simp [s1, s2, s3, s4, s5, s6, s7, s8, s9, arityB, mkL_len, cntI, lenI, listB, bl, rowF]
  all_goals first | omega | (intros; omega)

set_option linter.unusedSimpArgs false in
set_option linter.unusedVariables false in
theorem mk_arity16 (la lb lc : List Int) (K ch vars : Int) : arityB (s9 lc 1 (s8 lc K ch (s7 lc 1 (s6 K 1 (s5 lc (s4 lc 0 1 (s3 lb vars 0 1 (s2 lb vars 1 (s1 la vars 1 16))))))))) ⟨(shapesL.getD 16 []).toArray⟩ = true := by
  have e : shapesL.getD 16 [] = [118, 107, 119] := by kernel_rfl
  rw [e]
  have h3 := Nat.mod_lt lc.length (show 0 < 3 by decide)
  have h5 := Nat.mod_lt lc.length (show 0 < 5 by decide)
  have h6 := Nat.mod_lt lc.length (show 0 < 6 by decide)
  simp [s1, s2, s3, s4, s5, s6, s7, s8, s9, arityB, mkL_len, cntI, lenI, listB, bl, rowF]
  all_goals first | omega | (intros; omega)

set_option linter.unusedSimpArgs false in
set_option linter.unusedVariables false in
theorem mk_arity17 (la lb lc : List Int) (K ch vars : Int) (n : Nat) (hb : 1 ≤ n ∧ n ≤ 4) : arityB (s9 lc n (s8 lc K ch (s7 lc n (s6 K 0 (s5 lc (s4 lc 0 n (s3 lb vars 0 n (s2 lb vars 0 (s1 la vars n 17))))))))) ⟨(shapesL.getD 17 []).toArray⟩ = true := by
  have e : shapesL.getD 17 [] = [86] := by kernel_rfl
  rw [e]
  have h3 := Nat.mod_lt lc.length (show 0 < 3 by decide)
  have h5 := Nat.mod_lt lc.length (show 0 < 5 by decide)
  have h6 := Nat.mod_lt lc.length (show 0 < 6 by decide)
  simp [s1, s2, s3, s4, s5, s6, s7, s8, s9, arityB, mkL_len, cntI, lenI, listB, bl, rowF]
  all_goals first | omega | (intros; omega)

set_option linter.unusedSimpArgs false in
set_option linter.unusedVariables false in
theorem mk_arity18 (la lb lc : List Int) (K ch vars : Int) (n : Nat) (hb : 1 ≤ n ∧ n ≤ 4) : arityB (s9 lc n (s8 lc K ch (s7 lc n (s6 K 0 (s5 lc (s4 lc 0 n (s3 lb vars 0 n (s2 lb vars 0 (s1 la vars n 18))))))))) ⟨(shapesL.getD 18 []).toArray⟩ = true := by
  have e : shapesL.getD 18 [] = [86, 114] := by kernel_rfl
  rw [e]
  have h3 := Nat.mod_lt lc.length (show 0 < 3 by decide)
  have h5 := Nat.mod_lt lc.length (show 0 < 5 by decide)
  have h6 := Nat.mod_lt lc.length (show 0 < 6 by decide)
  simp [s1, s2, s3, s4, s5, s6, s7, s8, s9, arityB, mkL_len, cntI, lenI, listB, bl, rowF]
  all_goals first | omega | (intros; omega)

set_option linter.unusedSimpArgs false in
set_option linter.unusedVariables false in
theorem mk_arity19 (la lb lc : List Int) (K ch vars : Int) (n : Nat) (hb : 1 ≤ n ∧ n ≤ 4) : arityB (s9 lc n (s8 lc K ch (s7 lc n (s6 K 1 (s5 lc (s4 lc 1 n (s3 lb vars 0 n (s2 lb vars 0 (s1 la vars n 19))))))))) ⟨(shapesL.getD 19 []).toArray⟩ = true := by
  have e : shapesL.getD 19 [] = [86, 99, 100, 107] := by kernel_rfl
  rw [e]
  have h3 := Nat.mod_lt lc.length (show 0 < 3 by decide)
  have h5 := Nat.mod_lt lc.length (show 0 < 5 by decide)
  have h6 := Nat.mod_lt lc.length (show 0 < 6 by decide)
  simp [s1, s2, s3, s4, s5, s6, s7, s8, s9, arityB, mkL_len, cntI, lenI, listB, bl, rowF]
  all_goals first | omega | (intros; omega)

set_option linter.unusedSimpArgs false in
set_option linter.unusedVariables false in
theorem mk_arity20 (la lb lc : List Int) (K ch vars : Int) (n : Nat) (hb : 1 ≤ n ∧ n ≤ 4) : arityB (s9 lc n (s8 lc K ch (s7 lc n (s6 K 0 (s5 lc (s4 lc 0 n (s3 lb vars 0 n (s2 lb vars 0 (s1 la vars n 20))))))))) ⟨(shapesL.getD 20 []).toArray⟩ = true := by
  have e : shapesL.getD 20 [] = [86] := by kernel_rfl
  rw [e]
  have h3 := Nat.mod_lt lc.length (show 0 < 3 by decide)
  have h5 := Nat.mod_lt lc.length (show 0 < 5 by decide)
  have h6 := Nat.mod_lt lc.length (show 0 < 6 by decide)
  simp [s1, s2, s3, s4, s5, s6, s7, s8, s9, arityB, mkL_len, cntI, lenI, listB, bl, rowF]
  all_goals first | omega | (intros; omega)

set_option linter.unusedSimpArgs false in
set_option linter.unusedVariables false in
theorem mk_arity21 (la lb lc : List Int) (K ch vars : Int) (n : Nat) (hb : 1 ≤ n ∧ n ≤ 4) : arityB (s9 lc n (s8 lc K ch (s7 lc n (s6 K 0 (s5 lc (s4 lc 1 n (s3 lb vars 0 n (s2 lb vars 0 (s1 la vars n 21))))))))) ⟨(shapesL.getD 21 []).toArray⟩ = true := by
  have e : shapesL.getD 21 [] = [86, 99, 100, 101] := by kernel_rfl
  rw [e]
  have h3 := Nat.mod_lt lc.length (show 0 < 3 by decide)
  have h5 := Nat.mod_lt lc.length (show 0 < 5 by decide)
  have h6 := Nat.mod_lt lc.length (show 0 < 6 by decide)
  simp [s1, s2, s3, s4, s5, s6, s7, s8, s9, arityB, mkL_len, cntI, lenI, listB, bl, rowF]
  all_goals first | omega | (intros; omega)

set_option linter.unusedSimpArgs false in
set_option linter.unusedVariables false in
theorem mk_arity22 (la lb lc : List Int) (K ch vars : Int) (n : Nat) (hb : 1 ≤ n ∧ n ≤ 4) : arityB (s9 lc n (s8 lc K ch (s7 lc n (s6 K 0 (s5 lc (s4 lc 0 n (s3 lb vars 1 n (s2 lb vars 0 (s1 la vars n 22))))))))) ⟨(shapesL.getD 22 []).toArray⟩ = true := by
  have e : shapesL.getD 22 [] = [86, 87] := by kernel_rfl
  rw [e]
  have h3 := Nat.mod_lt lc.length (show 0 < 3 by decide)
  have h5 := Nat.mod_lt lc.length (show 0 < 5 by decide)
  have h6 := Nat.mod_lt lc.length (show 0 < 6 by decide)
  simp [s1, s2, s3, s4, s5, s6, s7, s8, s9, arityB, mkL_len, cntI, lenI, listB, bl, rowF]
  all_goals first | omega | (intros; omega)

set_option linter.unusedSimpArgs false in
set_option linter.unusedVariables false in
theorem mk_arity23 (la lb lc : List Int) (K ch vars : Int) (n : Nat) (hb : 1 ≤ n ∧ n ≤ 4) : arityB (s9 lc n (s8 lc K ch (s7 lc n (s6 K 0 (s5 lc (s4 lc 0 n (s3 lb vars 1 n (s2 lb vars 0 (s1 la vars n 23))))))))) ⟨(shapesL.getD 23 []).toArray⟩ = true := by
  have e : shapesL.getD 23 [] = [86, 87] := by kernel_rfl
  rw [e]
  have h3 := Nat.mod_lt lc.length (show 0 < 3 by decide)
  have h5 := Nat.mod_lt lc.length (show 0 < 5 by decide)
  have h6 := Nat.mod_lt lc.length (show 0 < 6 by decide)
  simp [s1, s2, s3, s4, s5, s6, s7, s8, s9, arityB, mkL_len, cntI, lenI, listB, bl, rowF]
  all_goals first | omega | (intros; omega)

end Go.Proofs.YtcmdgjkoalophaaGreatDoor
