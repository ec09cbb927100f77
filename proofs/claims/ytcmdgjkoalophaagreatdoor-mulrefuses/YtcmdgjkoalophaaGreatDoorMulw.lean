/- Contract of mul's Filter: what is left, or nothing. -/
import Derived.Test.YtcmdgjkoalophaaGreatDoorMkr2
import Derived.Test.YtcmdgjkoalophaaGreatDoorMshapes
import Derived.Test.YtcmdgjkoalophaaGreatDoorMul1
import Derived.Test.YtcmdgjkoalophaaGreatDoorMkmore
import Derived.Test.YtcmdgjkoalophaaGreatDoorSep
namespace Go.Proofs.YtcmdgjkoalophaaGreatDoor
open Go.RowKit Go.Sort

set_option maxHeartbeats 4000000 in
set_option maxRecDepth 100000 in
theorem mul_any (v : ConV) (c : ConL) (x : Sl) (D : List (List Int)) (w : World) (hE : EntIn w) (hT : TabZ w) (h : ConIn w v c) (hx : DomsIn w x D) :
    Calls Tryz.prog 43 #[v.val c.kind c.K, .slice x.A x.n x.c] w fun e w' => (∃ y : Sl, e = .returned (.tuple #[.slice y.A y.n y.c, .bool (mulE c D).isSome]) ∧ DomsIn w' y ((mulE c D).getD [])) ∧ Below w.heap.size w w' := by
  obtain ⟨wb, hwb⟩ : ∃ wb, cBox w v c.kind c.K = wb := ⟨_, rfl⟩
  have HR : Hid (RBox w.heap.size wb v c ⟨none, 0, 0⟩ [] ∧ Below w.heap.size w wb) := Lib.hid (hwb ▸ ⟨RBox.start h (IsInts.nil _), cBox_below _ _ _ _⟩)
  have HD := Lib.hid (hx.below HR.out.2)
  have HT := Lib.hid (hT.below HR.out.2)
  have CM := Lib.hid (mayMul_any v c x D wb (hE.below HR.out.2) HR.out.1.con HD.out)
  obtain ⟨R, hR⟩ : ∃ R, R = mulE c D := ⟨_, rfl⟩
  rw [← hR]
  have HWB := Lib.hid hwb
  have HB := Lib.hid HR.out.2
  have d0 := HR.out.1.c0
  have d1 := HR.out.1.c1
  have d2 := HR.out.1.c2
  have d3 := HR.out.1.c3
  have d4 := HR.out.1.c4
  have d5 := HR.out.1.c5
  have d6 := HR.out.1.c6
  have d7 := HR.out.1.c7
  have HRR := Lib.hid hR
  clear hwb h hx hE hT hR
  cases hf : fitsE c D 5 7 with
  | false =>
    rw [hf] at CM
    have HF : Hid (R = none) := Lib.hid (by rw [HRR.out]; unfold mulE; rw [if_neg (by rw [hf]; decide)])
    clear hf HRR
    go_enter Tryz.func43, Tryz.ntmps43
    go_upto_region 1 with fail
    change Code.wp _ _ _ _ (cBox w v c.kind c.K)
    rw [HWB.out]
    clear HWB
    go_wp2_with fail
    refine CM.out.mono ?_
    rintro e w1 ⟨rfl, b1⟩
    have B1 := Lib.hid (HB.out.trans (b1.mono HB.out.size))
    clear b1 CM d0 d1 d2 d3 d4 d5 d6 d7
    go_wp2_with fail
    go_ret2
    rw [HF.out]
    exact ⟨⟨⟨none, 0, 0⟩, rfl, DomsIn.nil _⟩, B1.out⟩
  | true =>
    rw [hf] at CM
    obtain ⟨A, Bs, C, hDD, hk, ha, hb, hc⟩ := fits_three hf
    have HV : Hid (R = if (mulL c.kind A Bs C).any (fun l => l.length == 0) = true then none else some (mulL c.kind A Bs C)) := Lib.hid (by rw [HRR.out]; unfold mulE; rw [if_pos hf, hDD]; rfl)
    rw [hDD] at HD
    have CF := Lib.hid (fun W (hW : Below wb.heap.size wb W) => mulFilter_any c.kind x A Bs C W hk (HD.out.below hW) (HT.out.below hW) ha hb)
    obtain ⟨L, hL⟩ : ∃ L, L = mulL c.kind A Bs C := ⟨_, rfl⟩
    rw [← hL] at HV CF
    clear hf HRR hDD hk ha hb hc hL HD HT
    go_enter Tryz.func43, Tryz.ntmps43
    go_upto_region 1 with fail
    change Code.wp _ _ _ _ (cBox w v c.kind c.K)
    rw [HWB.out]
    clear HWB
    go_wp2_with fail
    refine CM.out.mono ?_
    rintro e w1 ⟨rfl, b1⟩
    have B1 := Lib.hid b1
    have d0' := (b1.cell (World.block_lt_of_cell? _ _ d0)).trans d0
    clear b1 CM d0 d1 d2 d3 d4 d5 d6 d7
    go_wp2_with fail
    refine (CF.out w1 B1.out).mono ?_
    rintro e w2 ⟨⟨y, rfl, hy⟩, b2⟩
    have HY := Lib.hid hy
    have B2 := Lib.hid (HB.out.trans ((B1.out.trans (b2.mono B1.out.size)).mono HB.out.size))
    have CE := Lib.hid (anyEmpty_any y L w2 hy)
    clear hy b2 CF d0'
    cases ho : L.any (fun l => l.length == 0) with
    | false =>
      rw [ho] at CE
      have HF : Hid (R = some L) := Lib.hid (by rw [HV.out, ho]; rfl)
      clear ho HV
      go_wp2_with fail
      refine CE.out.mono ?_
      rintro e w3 ⟨rfl, b3⟩
      have B3 := Lib.hid (B2.out.trans (b3.mono B2.out.size))
      have HY3 := Lib.hid (HY.out.below b3)
      clear b3 CE
      go_wp2_with fail
      go_ret2
      rw [HF.out]
      exact ⟨⟨y, rfl, HY3.out⟩, B3.out⟩
    | true =>
      rw [ho] at CE
      have HF : Hid (R = none) := Lib.hid (by rw [HV.out, ho]; rfl)
      clear ho HV
      go_wp2_with fail
      refine CE.out.mono ?_
      rintro e w3 ⟨rfl, b3⟩
      have B3 := Lib.hid (B2.out.trans (b3.mono B2.out.size))
      clear b3 CE
      go_wp2_with fail
      go_ret2
      rw [HF.out]
      exact ⟨⟨⟨none, 0, 0⟩, rfl, DomsIn.nil _⟩, B3.out⟩
end Go.Proofs.YtcmdgjkoalophaaGreatDoor

/- Contract of the law's wakes (layer 11). -/
namespace Go.Proofs.YtcmdgjkoalophaaGreatDoor
open Go.RowKit Go.Sort

def vOf (x : Sl) : ConV := ⟨x, ⟨none, 0, 0⟩, ⟨none, 0, 0⟩, ⟨none, 0, 0⟩, ⟨none, 0, 0⟩, ⟨none, 0, 0⟩⟩
def cOf (k : Int) (A : List Int) : ConL := ⟨k, A, [], [], [], [], 0, []⟩
theorem con_of {w : World} {x : Sl} {A : List Int} (k : Int) (h : IsInts w x A) : ConIn w (vOf x) (cOf k A) := ⟨h, IsInts.nil _, IsInts.nil _, IsInts.nil _, IsInts.nil _, IsRows.nil _⟩
theorem ints_made (w : World) (A : List Int) (n : Nat) (hn : n = A.length) (h : n ≤ 1000000) : IsInts (w.alloc (.cells (I A).toArray 3)) ⟨some ⟨w.heap.size, 0, none⟩, n, n⟩ A := by
  subst hn
  have := World.ownsRow_lit (base := w.heap.size) (e := 3) (size := 1) w (I A).toArray A.length (Nat.le_refl _) (by unfold maxLen; omega) (by simp [I])
  exact ints_own this (by omega)
theorem doms_build2 {W : World} {d1 d2 : Dv} {L1 L2 : List Int} (h1 : IsDom W d1.val L1) (h2 : IsDom W d2.val L2) :
    DomsIn (W.alloc (.cells (d1.cells ++ d2.cells).toArray 77)) ⟨some ⟨W.heap.size, 0, none⟩, 2, 2⟩ [L1, L2] := by
  have b := below1 W (.cells (d1.cells ++ d2.cells).toArray 77)
  have hn := heap_alloc_new W (.cells (d1.cells ++ d2.cells).toArray 77)
  refine ⟨rfl, by simp, Nat.le_refl _, fun _ => ⟨W.heap.size, 0, rfl, (Array.getElem?_eq_some_iff.1 hn).1, fun i hi => ?_⟩⟩
  have key : ∀ (d : Dv) (k : Nat), (∀ (j : Nat) (u : Value), d.cells[j]? = some u → (d1.cells ++ d2.cells)[k * 3 + j]? = some u) → ∀ (j : Nat) (u : Value), d.cells[j]? = some u → (W.alloc (.cells (d1.cells ++ d2.cells).toArray 77)).cell? ⟨W.heap.size, 0 + k * 3 + j, none⟩ = some u := by
    intro d k hk j u hj
    refine blk_cell hn ?_
    rw [Nat.zero_add, List.getElem?_toArray]
    exact hk j u hj
  have hlt3 : ∀ (d : Dv) (j : Nat) (u : Value), d.cells[j]? = some u → j < 3 := fun d j u hj => by
    have := (List.getElem?_eq_some_iff.1 hj).1
    simpa [Dv.cells] using this
  match i, hi with
  | 0, _ => exact ⟨d1, key d1 0 (fun j u hj => by have := hlt3 _ _ _ hj; match j, hj with | 0, hj => exact hj | 1, hj => exact hj | 2, hj => exact hj), h1.below b⟩
  | 1, _ => exact ⟨d2, key d2 1 (fun j u hj => by have := hlt3 _ _ _ hj; match j, hj with | 0, hj => exact hj | 1, hj => exact hj | 2, hj => exact hj), h2.below b⟩

/-- Where a domain lies in a variable. -/
def VarD (W : World) (g : Nat) (d : Dv) (L : List Int) : Prop := W.heap[g]? = some (.cells #[.int .i64 d.s, .slice d.A d.n d.c, .int .i64 d.z] 77 (0, 0)) ∧ IsDom W d.val L
theorem VarD.below {W W' : World} {g : Nat} {d : Dv} {L : List Int} (h : VarD W g d L) (b : Below W.heap.size W W') : VarD W' g d L := ⟨(b.block _ (Array.getElem?_eq_some_iff.1 h.1).1).trans h.1, h.2.below b⟩
theorem VarD.new {W : World} {d : Dv} {L : List Int} (h : IsDom W d.val L) : VarD (W.alloc (.cells #[.int .i64 d.s, .slice d.A d.n d.c, .int .i64 d.z] 77)) W.heap.size d L := ⟨heap_new W _, h.below (below1 W _)⟩
theorem VarD.c0 {W : World} {g : Nat} {d : Dv} {L : List Int} (h : VarD W g d L) : W.cell? ⟨g, 0, none⟩ = some (.int .i64 d.s) := blk_cell h.1 rfl
theorem VarD.c1 {W : World} {g : Nat} {d : Dv} {L : List Int} (h : VarD W g d L) : W.cell? ⟨g, 1, none⟩ = some (.slice d.A d.n d.c) := blk_cell h.1 rfl
theorem VarD.c2 {W : World} {g : Nat} {d : Dv} {L : List Int} (h : VarD W g d L) : W.cell? ⟨g, 2, none⟩ = some (.int .i64 d.z) := blk_cell h.1 rfl

theorem range_at (lo hi : Int) (L : List Int) (w : World) (h : (if rangeErr lo hi = 0 then rangeL lo hi else []) = L) : Calls Tryz.prog 76 #[.int .i64 lo, .int .i64 hi] w fun e w' => (∃ d : Dv, e = .returned (.tuple #[d.val, .int .i64 (rangeErr lo hi)]) ∧ IsDom w' d.val L) ∧ Below w.heap.size w w' := by
  have := range_dom lo hi w
  rw [h] at this
  refine this.mono ?_
  rintro e w1 ⟨d, rfl, hd, b⟩
  obtain ⟨dv, rfl, -⟩ := Dv.of hd
  exact ⟨⟨dv, rfl, hd⟩, b⟩
theorem same_base {W W' : World} {x : Sl} {L : List (List Int)} {g o : Nat} (b : Below W.heap.size W W') (h : DomsIn W x L) (e : x.A = some ⟨g, o, none⟩) (k : Nat) (hk : k < x.n) :
    ∃ d : Dv, W'.cell? ⟨g, o + k * 3, none⟩ = some (.int .i64 d.s) ∧ W'.cell? ⟨g, o + k * 3 + 1, none⟩ = some (.slice d.A d.n d.c) ∧ W'.cell? ⟨g, o + k * 3 + 2, none⟩ = some (.int .i64 d.z) ∧ IsDom W' d.val (L.getD k []) := by
  obtain ⟨g', o', d, e', p0, p1, p2, hD⟩ := (h.below b).at_ k hk
  rw [e] at e'
  injection e' with e'
  injection e' with e1 e2 _
  subst e1
  subst e2
  exact ⟨d, p0, p1, p2, hD⟩
theorem mulE_wake : mulE (cOf 5 [0, 1, 2]) [[2, 3], [4, 5], [0, 1, 2, 3, 4, 5, 6, 7, 8, 9, 10]] = some [[2], [4, 5], [8, 10]] := by kernel_rfl
theorem mulE_sleep (D : List (List Int)) : mulE (cOf 8 [0, 1]) D = none := by
  unfold mulE
  rw [if_neg]
  unfold fitsE cOf
  simp

set_option maxHeartbeats 4000000 in
set_option maxRecDepth 100000 in
theorem mulWakes_any (w : World) (hE : EntIn w) (hT : TabZ w) : Calls Tryz.prog 46 #[] w fun e w' => e = .returned (.bool true) ∧ Below w.heap.size w w' := by
  have HE := Lib.hid hE
  have HT := Lib.hid hT
  have C1 := Lib.hid (range_at 2 3 [2, 3] w (by decide))
  clear hE hT
  go_enter Tryz.func46, Tryz.ntmps46
  go_wp2_with fail
  refine C1.out.mono ?_
  rintro e w1 ⟨⟨d1, rfl, k1⟩, b1⟩
  have b2 := below1 w1 (.cells #[.int .i64 d1.s, .slice d1.A d1.n d1.c, .int .i64 d1.z] 77)
  have V1 := VarD.new k1
  have B2 := Lib.hid (b1.trans (b2.mono b1.size))
  obtain ⟨w2, hw2⟩ : ∃ w2, w1.alloc (.cells #[.int .i64 d1.s, .slice d1.A d1.n d1.c, .int .i64 d1.z] 77) = w2 := ⟨_, rfl⟩
  rw [hw2] at V1 B2
  obtain ⟨g1, hg1⟩ : ∃ g1, g1 = w1.heap.size := ⟨_, rfl⟩
  rw [← hg1] at V1
  have HV1 := Lib.hid V1
  have C2 := Lib.hid (range_at 4 5 [4, 5] w2 (by decide))
  clear C1 k1 b1 b2 V1
  go_upto_region 2 with fail
  clear hw2
  rw [← hg1]
  clear hg1
  go_wp2_with fail
  refine C2.out.mono ?_
  rintro e w3 ⟨⟨d2, rfl, k3⟩, b3⟩
  have b4 := below1 w3 (.cells #[.int .i64 d2.s, .slice d2.A d2.n d2.c, .int .i64 d2.z] 77)
  have V2 := VarD.new k3
  have b24 := b3.trans (b4.mono b3.size)
  have B4 := Lib.hid (B2.out.trans (b24.mono B2.out.size))
  have V1 := HV1.out.below b24
  obtain ⟨w4, hw4⟩ : ∃ w4, w3.alloc (.cells #[.int .i64 d2.s, .slice d2.A d2.n d2.c, .int .i64 d2.z] 77) = w4 := ⟨_, rfl⟩
  rw [hw4] at V2 B4 V1
  obtain ⟨g2, hg2⟩ : ∃ g2, g2 = w3.heap.size := ⟨_, rfl⟩
  rw [← hg2] at V2
  have HV1' := Lib.hid V1
  have HV2 := Lib.hid V2
  have C3 := Lib.hid (range_at 0 10 [0, 1, 2, 3, 4, 5, 6, 7, 8, 9, 10] w4 (by decide))
  clear C2 k3 b3 b4 b24 V1 V2 HV1 B2
  go_upto_region 3 with fail
  clear hw4
  rw [← hg2]
  clear hg2
  go_wp2_with fail
  refine C3.out.mono ?_
  rintro e w5 ⟨⟨d3, rfl, k5⟩, b5⟩
  have b6 := below1 w5 (.cells #[.int .i64 d3.s, .slice d3.A d3.n d3.c, .int .i64 d3.z] 77)
  have V3 := VarD.new k5
  have b46 := b5.trans (b6.mono b5.size)
  have B6 := Lib.hid (B4.out.trans (b46.mono B4.out.size))
  have V1 := HV1'.out.below b46
  have V2 := HV2.out.below b46
  obtain ⟨w6, hw6⟩ : ∃ w6, w5.alloc (.cells #[.int .i64 d3.s, .slice d3.A d3.n d3.c, .int .i64 d3.z] 77) = w6 := ⟨_, rfl⟩
  rw [hw6] at V3 B6 V1 V2
  obtain ⟨g3, hg3⟩ : ∃ g3, g3 = w5.heap.size := ⟨_, rfl⟩
  rw [← hg3] at V3
  clear C3 k5 b5 b6 b46 HV1' HV2 B4
  go_upto_region 4 with fail
  clear hw6
  rw [← hg3]
  clear hg3
  obtain ⟨w7, hw7⟩ : ∃ w7, w6.alloc (.cells #[.int .i64 0, .int .i64 1, .int .i64 2] 3) = w7 := ⟨_, rfl⟩
  have I7 : IsInts w7 ⟨some ⟨w6.heap.size, 0, none⟩, 3, 3⟩ [0, 1, 2] := hw7 ▸ ints_made w6 [0, 1, 2] 3 rfl (by omega)
  have b67 : Below w6.heap.size w6 w7 := hw7 ▸ below1 w6 _
  have W1 := V1.below b67
  have W2 := V2.below b67
  have W3 := V3.below b67
  have B7 := Lib.hid (B6.out.trans (b67.mono B6.out.size))
  have p0 := W1.c0
  have p1 := W1.c1
  have p2 := W1.c2
  have q0 := W2.c0
  have q1 := W2.c1
  have q2 := W2.c2
  have r0 := W3.c0
  have r1 := W3.c1
  have r2 := W3.c2
  have HD8 := Lib.hid (doms_build3 W1.2 W2.2 W3.2)
  obtain ⟨w8, hw8⟩ : ∃ w8, w7.alloc (.cells (d1.cells ++ d2.cells ++ d3.cells).toArray 77) = w8 := ⟨_, rfl⟩
  rw [hw8] at HD8
  have b78 : Below w7.heap.size w7 w8 := hw8 ▸ below1 w7 _
  have HW1 := Lib.hid (W1.below b78)
  have HW2 := Lib.hid (W2.below b78)
  have B8 := Lib.hid (B7.out.trans (b78.mono B7.out.size))
  have CF := mul_any (vOf ⟨some ⟨w6.heap.size, 0, none⟩, 3, 3⟩) (cOf 5 [0, 1, 2]) _ _ w8 (HE.out.below B8.out) (HT.out.below B8.out) (con_of 5 (I7.below b78)) HD8.out
  rw [mulE_wake] at CF
  have CF : Hid (Calls Tryz.prog 43 #[.agg #[.int .i64 5, .slice (some ⟨w6.heap.size, 0, none⟩) 3 3, .slice none 0 0, .slice none 0 0, .slice none 0 0, .slice none 0 0, .int .i64 0, .slice none 0 0], .slice (some ⟨w7.heap.size, 0, none⟩) 3 3] w8 fun e w' => (∃ y : Sl, e = .returned (.tuple #[.slice y.A y.n y.c, .bool true]) ∧ DomsIn w' y [[2], [4, 5], [8, 10]]) ∧ Below w8.heap.size w8 w') := Lib.hid CF
  have hw8' : w7.alloc (.cells #[.int .i64 d1.s, .slice d1.A d1.n d1.c, .int .i64 d1.z, .int .i64 d2.s, .slice d2.A d2.n d2.c, .int .i64 d2.z, .int .i64 d3.s, .slice d3.A d3.n d3.c, .int .i64 d3.z] 77) = w8 := hw8
  clear V1 V2 V3 W1 W2 W3 I7 b67 b78 B6 B7 HD8 hw8
  go_wp2_with fail
  refine CF.out.mono ?_
  rintro e w9 ⟨⟨y, rfl, hy⟩, b9⟩
  have HY := Lib.hid hy
  have W1 := HW1.out.below b9
  have W2 := HW2.out.below b9
  have B9 := Lib.hid (B8.out.trans (b9.mono B8.out.size))
  clear CF hw7 hw8' hy b9 HW1 HW2 B8 p0 p1 p2 q0 q1 q2 r0 r1 r2
  obtain ⟨wa, hwa⟩ : ∃ wa, w9.alloc (.cells #[.int .i64 0, .int .i64 1] 3) = wa := ⟨_, rfl⟩
  have Ia : IsInts wa ⟨some ⟨w9.heap.size, 0, none⟩, 2, 2⟩ [0, 1] := hwa ▸ ints_made w9 [0, 1] 2 rfl (by omega)
  have b9a : Below w9.heap.size w9 wa := hwa ▸ below1 w9 _
  have X1 := W1.below b9a
  have X2 := W2.below b9a
  have p0 := X1.c0
  have p1 := X1.c1
  have p2 := X1.c2
  have q0 := X2.c0
  have q1 := X2.c1
  have q2 := X2.c2
  have HDb := Lib.hid (doms_build2 X1.2 X2.2)
  obtain ⟨wb, hwb⟩ : ∃ wb, wa.alloc (.cells (d1.cells ++ d2.cells).toArray 77) = wb := ⟨_, rfl⟩
  rw [hwb] at HDb
  have bab : Below wa.heap.size wa wb := hwb ▸ below1 wa _
  have b9b := b9a.trans (bab.mono b9a.size)
  have HYb := Lib.hid (HY.out.below b9b)
  have Bb := Lib.hid (B9.out.trans (b9b.mono B9.out.size))
  have CF := mul_any (vOf ⟨some ⟨w9.heap.size, 0, none⟩, 2, 2⟩) (cOf 8 [0, 1]) _ _ wb (HE.out.below Bb.out) (HT.out.below Bb.out) (con_of 8 (Ia.below bab)) HDb.out
  rw [mulE_sleep] at CF
  have CF : Hid (Calls Tryz.prog 43 #[.agg #[.int .i64 8, .slice (some ⟨w9.heap.size, 0, none⟩) 2 2, .slice none 0 0, .slice none 0 0, .slice none 0 0, .slice none 0 0, .int .i64 0, .slice none 0 0], .slice (some ⟨wa.heap.size, 0, none⟩) 2 2] wb fun e w' => (∃ y : Sl, e = .returned (.tuple #[.slice y.A y.n y.c, .bool false]) ∧ DomsIn w' y []) ∧ Below wb.heap.size wb w') := Lib.hid CF
  have hwb' : wa.alloc (.cells #[.int .i64 d1.s, .slice d1.A d1.n d1.c, .int .i64 d1.z, .int .i64 d2.s, .slice d2.A d2.n d2.c, .int .i64 d2.z] 77) = wb := hwb
  clear W1 W2 X1 X2 Ia b9a bab b9b HY HDb hwb
  go_wp2_with fail
  refine CF.out.mono ?_
  rintro e wc ⟨⟨y2, rfl, -⟩, bc⟩
  have HYc := Lib.hid (HYb.out.below bc)
  have Bc := Lib.hid (Bb.out.trans (bc.mono Bb.out.size))
  clear CF hwa hwb' bc HYb B9 Bb p0 p1 p2 q0 q1 q2
  have hyn : y.n = 3 := HYc.out.len
  obtain ⟨g, o, e0, ex, p0, p1, p2, h0⟩ := HYc.out.at_ 0 (by omega)
  have E0 : Hid (IsDom wc e0.val [2]) := Lib.hid h0
  rw [Nat.zero_mul, Nat.add_zero] at p0 p1 p2
  have CS := Lib.hid (D.size_dom e0.val [2] wc E0.out)
  rw [ex]
  clear h0
  go_wp2_with fail
  refine CS.out.mono ?_
  rintro e wd ⟨rfl, bd⟩
  have HYd := Lib.hid (HYc.out.below bd)
  have Bd := Lib.hid (Bc.out.trans (bd.mono Bc.out.size))
  clear CS bd p0 p1 p2 E0
  obtain ⟨e1, q0, q1, q2, h1⟩ := same_base (Below.refl _ _) HYd.out ex 1 (by omega)
  have E1 : Hid (IsDom wd e1.val [4, 5]) := Lib.hid h1
  rw [Nat.one_mul] at q0 q1 q2
  have CS := Lib.hid (D.size_dom e1.val [4, 5] wd E1.out)
  clear h1
  go_wp2_with fail
  refine CS.out.mono ?_
  rintro e we ⟨rfl, be⟩
  have HYe := Lib.hid (HYd.out.below be)
  have Be := Lib.hid (Bd.out.trans (be.mono Bd.out.size))
  clear CS be q0 q1 q2 E1
  obtain ⟨e2, r0, r1, r2, h2⟩ := same_base (Below.refl _ _) HYe.out ex 2 (by omega)
  have E2 : Hid (IsDom we e2.val [8, 10]) := Lib.hid h2
  have r0 : we.cell? ⟨g, o + 6, none⟩ = some (.int .i64 e2.s) := r0
  have r1 : we.cell? ⟨g, o + 6 + 1, none⟩ = some (.slice e2.A e2.n e2.c) := r1
  have r2 : we.cell? ⟨g, o + 6 + 2, none⟩ = some (.int .i64 e2.z) := r2
  have CL := Lib.hid (list_dom e2.val [8, 10] we E2.out (HT.out.below Be.out))
  clear h2
  go_wp2_with fail
  refine CL.out.mono ?_
  rintro e wf ⟨v, rfl, hv, bf⟩
  obtain ⟨YA, kA, rfl⟩ := slice_row hv
  have Bf := Lib.hid (Be.out.trans (bf.mono Be.out.size))
  have If : IsInts wf ⟨YA, 2, kA⟩ [8, 10] := ints_own (y := ⟨YA, 2, kA⟩) hv (by simp)
  have bg := below1 wf (.cells #[.int .i64 8, .int .i64 10] 3)
  have Jg : IsInts (wf.alloc (.cells #[.int .i64 8, .int .i64 10] 3)) ⟨some ⟨wf.heap.size, 0, none⟩, 2, 2⟩ [8, 10] := ints_made wf [8, 10] 2 rfl (by omega)
  have Bg := Lib.hid (Bf.out.trans (bg.mono Bf.out.size))
  have CQ := gequal_ints ⟨YA, 2, kA⟩ ⟨some ⟨wf.heap.size, 0, none⟩, 2, 2⟩ [8, 10] [8, 10] _ (If.below bg) Jg
  have CQ : Hid (Calls Tryz.prog 103 #[.slice YA 2 kA, .slice (some ⟨wf.heap.size, 0, none⟩) 2 2] (wf.alloc (.cells #[.int .i64 8, .int .i64 10] 3)) fun e w' => e = .returned (.bool true) ∧ Below (wf.alloc (.cells #[.int .i64 8, .int .i64 10] 3)).heap.size (wf.alloc (.cells #[.int .i64 8, .int .i64 10] 3)) w') := Lib.hid CQ
  clear CL hv bf r0 r1 r2 E2 If Jg bg
  go_wp2_with fail
  refine CQ.out.mono ?_
  rintro e wh ⟨rfl, bh⟩
  have Bh := Lib.hid (Bg.out.trans (bh.mono Bg.out.size))
  clear CQ bh
  go_wp2_with fail
  go_ret
  exact ⟨rfl, Bh.out⟩
end Go.Proofs.YtcmdgjkoalophaaGreatDoor

/- Rows of one number each, and the numbers, grown side by side: what the laws of layers 10 to 22 on fixed values make. No walk. -/
namespace Go.Proofs.YtcmdgjkoalophaaGreatDoor
open Go.RowKit

/-- Rows, and numbers of one's own beside them, in no row's block. -/
structure RowsV (B : Nat) (W : World) (y : Sl) (xs : List Sl) (R : List (List Int)) (z : Sl) (L : List Int) : Prop where
  rows : RowsO B W y xs R
  ints : Row3 W B z L
  ne : ∀ x ∈ xs, ∀ g, ownB z = some g → ownB x ≠ some g
  lo : B ≤ W.heap.size
theorem row3_below {W W' : World} {B : Nat} {z : Sl} {L : List Int} (h : Row3 W B z L) (b : Below W.heap.size W W') : Row3 W' B z L := own_keep' h fun g hg => b.block g (own_lt' h hg).2
theorem RowsV.below {B : Nat} {W W' : World} {y : Sl} {xs : List Sl} {R : List (List Int)} {z : Sl} {L : List Int} (h : RowsV B W y xs R z L) (b : Below W.heap.size W W') : RowsV B W' y xs R z L :=
  ⟨h.rows.below b, row3_below h.ints b, h.ne, Nat.le_trans h.lo b.size⟩
theorem RowsV.nil (B : Nat) (W : World) (h : B ≤ W.heap.size) : RowsV B W ⟨none, 0, 0⟩ [] [] ⟨none, 0, 0⟩ [] := ⟨RowsO.nil _ _, Row3.nil _ _, fun x hx => (by cases hx), h⟩

/-- append of a new row of one number, at the walk's operation. -/
theorem wpList_append_fix1 {ops : Array Oper} {rest : List Oper} {o : Oper} {a : Act} {Q : Exit → Act → World → Prop} (hgd : o.guard = none) (s x : Operand)
    (ho : o.op = .call { callee := .builtin .append, args := #[s, x], argTypes := #[29, 29] })
    {B : Nat} {w : World} {y : Sl} {xs : List Sl} {R : List (List Int)} {z : Sl} {L : List Int} (hF : RowsV B w y xs R z L) (v : Int) (hs : a.eval s = .slice y.A y.n y.c) (hx : a.eval x = .slice (some ⟨w.heap.size + 1, 0, none⟩) 1 1) (hn : xs.length < 1000000)
    (h : ∀ (y' : Sl) w', RowsV B w' y' (xs ++ [⟨some ⟨w.heap.size, 0, none⟩, 1, 1⟩]) (R ++ [[v]]) z L → Below B w w' → wpList Tryz.prog ops Q rest (a.put o.dst (.slice y'.A y'.n y'.c)) w') :
    wpList Tryz.prog ops Q (o :: rest) a ((w.alloc (.cells #[.int .i64 v] 3)).alloc (.cells #[.slice (some ⟨w.heap.size, 0, none⟩) 1 1] 26)) := by
  obtain ⟨i0, hi, hz0, hz1, hz2⟩ := info_parts infoSl'
  have b1 := below1 w (.cells #[.int .i64 v] 3)
  have s1 : (w.alloc (.cells #[.int .i64 v] 3)).heap.size = w.heap.size + 1 := by simp
  have b2 := below1 (w.alloc (.cells #[.int .i64 v] 3)) (.cells #[.slice (some ⟨w.heap.size, 0, none⟩) 1 1] 26)
  have hN : Row3 (w.alloc (.cells #[.int .i64 v] 3)) B ⟨some ⟨w.heap.size, 0, none⟩, 1, 1⟩ [v] := World.ownsRow_lit (base := B) (e := 3) (size := 1) w #[.int .i64 v] 1 hF.lo (by decide) rfl
  have hN2 := row3_below hN b2
  have hF2 := (hF.below b1).below b2
  refine wpList_plain hgd fun K hK => ?_
  obtain ⟨v', w', hr, h2, h3, h4, h5⟩ := run_append_own_at (P := Tryz.prog) ((w.alloc (.cells #[.int .i64 v] 3)).alloc (.cells #[.slice (some ⟨w.heap.size, 0, none⟩) 1 1] 26)) B 29 o.type 26 i0 (.slice none 0 0) 1 24 Tryz.underlying29 hi hz0 hz1 hz2 rfl (by decide) (.slice y.A y.n y.c) _ _ hF2.rows.row ⟨w.heap.size + 1, 0, none⟩ 1 1 [.slice (some ⟨w.heap.size, 0, none⟩) 1 1] rfl
    (by have := new1_cells' (w.alloc (.cells #[.int .i64 v] 3)) (.slice (some ⟨w.heap.size, 0, none⟩) 1 1) 26; rw [s1] at this; exact this) (fun u hu => by simp at hu; subst hu; rfl) (by unfold maxLen; omega) (by omega) hF2.lo
  obtain ⟨Y, cY, rfl⟩ := slice_row h2
  unfold Oper.wp execOp
  simp only [ho, resolve, invoke, builtin, Sem.run_bind, Sem.run_pure, Result.andThen_ok, List.map_toArray, List.map_cons, List.map_nil, hs, hx, hr]
  have hO := hF2.rows.step (y' := ⟨Y, xs.length + 1, cY⟩) hN2 h2 h3
  have hI : Row3 w' B z L := own_keep' hF2.ints fun g hg => by
    refine h3.block g (own_lt' hF2.ints hg).2 (fun e => ?_)
    obtain ⟨c1, k1⟩ := own_type hF2.ints hg
    obtain ⟨c2, k2⟩ := own_type hF2.rows.row e.symm
    rw [k1] at k2
    simp at k2
  have hlt : ∀ g, ownB z = some g → g < w.heap.size := fun g hg => (own_lt' hF.ints hg).2
  refine hK _ _ (h ⟨Y, xs.length + 1, cY⟩ w' ⟨hO, hI, fun q hq g hg => ?_, Nat.le_trans hF2.lo h3.size⟩ ?_)
  · rcases List.mem_append.1 hq with hq | hq
    · exact hF.ne q hq g hg
    · simp only [List.mem_singleton] at hq
      subst hq
      intro e
      simp only [ownB, Value.ownBlock, Option.some.injEq] at e
      have := hlt g hg
      omega
  · have b3 : Below B ((w.alloc (.cells #[.int .i64 v] 3)).alloc (.cells #[.slice (some ⟨w.heap.size, 0, none⟩) 1 1] 26)) w' := ⟨h3.os, h3.tape, h3.output, h3.size, fun q hq => h3.block q (by have := hF2.lo; omega) (fun e => by have := (own_lt' hF2.rows.row e.symm).1; omega)⟩
    exact ((b1.mono hF.lo).trans (b2.mono (hF.below b1).lo)).trans b3

/-- append of the number, at the walk's operation. -/
theorem wpList_append_fix2 {ops : Array Oper} {rest : List Oper} {o : Oper} {a : Act} {Q : Exit → Act → World → Prop} (hgd : o.guard = none) (s x : Operand)
    (ho : o.op = .call { callee := .builtin .append, args := #[s, x], argTypes := #[26, 26] })
    {B : Nat} {w : World} {y : Sl} {xs : List Sl} {R : List (List Int)} {z : Sl} {L : List Int} (hF : RowsV B w y xs R z L) (v : Int) (hs : a.eval s = .slice z.A z.n z.c) (hx : a.eval x = .slice (some ⟨w.heap.size, 0, none⟩) 1 1) (hn : L.length < 1000000)
    (h : ∀ (z' : Sl) w', RowsV B w' y xs R z' (L ++ [v]) → Below B w w' → wpList Tryz.prog ops Q rest (a.put o.dst (.slice z'.A z'.n z'.c)) w') :
    wpList Tryz.prog ops Q (o :: rest) a (w.alloc (.cells #[.int .i64 v] 3)) := by
  obtain ⟨i0, hi, hz0, hz1, hz2⟩ := info_parts Tryz.info3
  have b1 := below1 w (.cells #[.int .i64 v] 3)
  have hF1 := hF.below b1
  refine wpList_plain hgd fun K hK => ?_
  obtain ⟨v', w', hr, h2, h3, h4, h5⟩ := run_append_own_at (P := Tryz.prog) (w.alloc (.cells #[.int .i64 v] 3)) B 26 o.type 3 i0 (.int .i64 0) 1 8 Tryz.underlying26 hi hz0 hz1 hz2 rfl (by decide) (.slice z.A z.n z.c) _ _ hF1.ints ⟨w.heap.size, 0, none⟩ 1 1 [.int .i64 v] rfl
    (new1_cells' w (.int .i64 v) 3) (fun u hu => by simp at hu; subst hu; rfl) (by unfold maxLen; omega) (by omega) hF1.lo
  obtain ⟨Y, cY, rfl⟩ := slice_row h2
  unfold Oper.wp execOp
  simp only [ho, resolve, invoke, builtin, Sem.run_bind, Sem.run_pure, Result.andThen_ok, List.map_toArray, List.map_cons, List.map_nil, hs, hx, hr]
  have hRow : Row3 w' B ⟨Y, L.length + 1, cY⟩ (L ++ [v]) := by
    unfold Row3
    rw [List.length_append, I_append]
    exact h2
  have hO : RowsO B w' y xs R := by
    refine ⟨own_keep' hF1.rows.row fun g hg => ?_, hF1.rows.len, fun k q r k1 k2 => own_keep' (hF1.rows.each k q r k1 k2) fun g hg => ?_⟩
    · refine h3.block g (own_lt' hF1.rows.row hg).2 (fun e => ?_)
      obtain ⟨c1, k1⟩ := own_type hF1.rows.row hg
      obtain ⟨c2, k2⟩ := own_type hF1.ints e.symm
      rw [k1] at k2
      simp at k2
    · exact h3.block g (own_lt' (hF1.rows.each k q r k1 k2) hg).2 (fun e => hF1.ne q (List.mem_of_getElem? k1) g e.symm hg)
  refine hK _ _ (h ⟨Y, L.length + 1, cY⟩ w' ⟨hO, hRow, fun q hq g hg => ?_, Nat.le_trans hF1.lo h3.size⟩ ?_)
  · rcases h5 with h5 | h5
    · exact hF1.ne q hq g (h5.symm.trans hg)
    · intro e
      have hg' : g = (w.alloc (.cells #[.int .i64 v] 3)).heap.size := by
        exact (Option.some.inj (h5.symm.trans hg)).symm
      obtain ⟨k, hk, hkq⟩ := List.getElem_of_mem hq
      have hkR : k < R.length := by rw [← hF1.rows.len]; exact hk
      have := (own_lt' (hF1.rows.each k q R[k] (by rw [List.getElem?_eq_getElem hk, hkq]) (List.getElem?_eq_getElem hkR)) e).2
      omega
  · have b3 : Below B (w.alloc (.cells #[.int .i64 v] 3)) w' := ⟨h3.os, h3.tape, h3.output, h3.size, fun q hq => h3.block q (by have := hF1.lo; omega) (fun e => by have := (own_lt' hF1.ints e.symm).1; omega)⟩
    exact (b1.mono hF.lo).trans b3
end Go.Proofs.YtcmdgjkoalophaaGreatDoor
