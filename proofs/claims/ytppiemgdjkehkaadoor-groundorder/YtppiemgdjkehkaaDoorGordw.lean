/- GroundOrder's walk. Made by tools/genorder.py. -/
import Derived.Test.YtppiemgdjkehkaaDoorMkmake
import Derived.Test.YtppiemgdjkehkaaDoorGwake
import Derived.Test.YtppiemgdjkehkaaDoorGclone
import Derived.Test.YtppiemgdjkehkaaDoorGord
import Derived.Deep.RegionLaw
import Derived.Deep.RegionHeld3
namespace Go.Proofs.YtppiemgdjkehkaaDoor
open Go.RowKit Go.Sort

abbrev oBox (w2 : World) (v : ConV) (kd kk : Int) : World := (w2.alloc (.cells (v.cells kd kk) 30)).alloc (.cells (v.cells kd kk) 30)
/-- The two boxes: the constraint, and the one that is turned. -/
structure OB (g : Nat) (v vd : ConV) (kd kk : Int) (W : World) : Prop where
  c : W.heap[g]? = some (.cells (v.cells kd kk) 30 (0, 0))
  d : W.heap[g + 1]? = some (.cells (vd.cells kd kk) 30 (0, 0))
theorem ob_start (w2 : World) (v : ConV) (kd kk : Int) : OB w2.heap.size v v kd kk (oBox w2 v kd kk) := by
  have e1 := heap_new w2 (.cells (v.cells kd kk) 30)
  have e2 := heap_new (w2.alloc (.cells (v.cells kd kk) 30)) (.cells (v.cells kd kk) 30)
  have z1 : (w2.alloc (.cells (v.cells kd kk) 30)).heap.size = w2.heap.size + 1 := by simp
  rw [z1] at e2
  refine ⟨?_, e2⟩
  rw [Below.heap_alloc _ _ _ (by rw [z1]; omega)]
  exact e1
theorem OB.below {g : Nat} {v vd : ConV} {kd kk : Int} {W W' : World} (h : OB g v vd kd kk W) (b : Below W.heap.size W W') : OB g v vd kd kk W' :=
  ⟨(b.block _ (Array.getElem?_eq_some_iff.1 h.c).1).trans h.c, (b.block _ (Array.getElem?_eq_some_iff.1 h.d).1).trans h.d⟩
theorem OB.put {g : Nat} {v vd vd' : ConV} {kd kk : Int} {W : World} (h : OB g v vd kd kk W) (j : Nat) (x : Value) (he : (vd.cells kd kk).setIfInBounds j x = vd'.cells kd kk) : OB g v vd' kd kk (W.setCell ⟨g + 1, j, none⟩ x) :=
  ⟨(Below.heap_setCell _ _ _ _ (by simp)).trans h.c, by rw [← he]; exact box_put h.d⟩

theorem Row3.cells' {W : World} {b : Nat} {y : Sl} {L : List Int} (h : Row3 W b y L) (hs : L.length ≤ 1000000) : IsInts W y L := ints_own h (by omega)
/-- A row of one's own stays where an elder box is written to. -/
theorem Row3.put {W : World} {b g : Nat} {y : Sl} {L : List Int} (h : Row3 W b y L) (hg : g < b) (j : Nat) (u : Value) : Row3 (W.setCell ⟨g, j, none⟩ u) b y L := h.kp ((Kp.refl g W).put j u) hg
theorem cell_next (W : World) (g j i : Nat) (u : Value) : (W.setCell ⟨g + 1, j, none⟩ u).cell? ⟨g, i, none⟩ = W.cell? ⟨g, i, none⟩ := World.cell?_of_block (w := W) (Below.heap_setCell _ _ _ _ (by simp))
theorem low_regrown {w W W6 : World} (h : Below w.heap.size w W) (hw : ∃ p : Regrown, W6 = grow (redrawn W p.d) p.os) : Below w.heap.size w W6 := by
  obtain ⟨p, rfl⟩ := hw
  exact h.trans ((below_regrown W p.d p.os).mono h.size)
theorem Row3.step {W W' : World} {b : Nat} {y : Sl} {L : List Int} (h : Row3 W b y L) (k : Below W.heap.size W W') : Row3 W' b y L := own_keep' h fun g hg => k.block g (own_lt' h hg).2
theorem low_put {w W : World} {b g : Nat} (h : Below b w W) (hg : b ≤ g) (j : Nat) (u : Value) : Below b w (W.setCell ⟨g, j, none⟩ u) := h.setCell (p := ⟨g, j, none⟩) hg u
theorem rows_turned {w2 W : World} {y : Sl} {R : List (List Int)} {b : Nat} {xs : List Sl} (hl : xs.length = R.length) (hO : W.ownsRow b 27 1 (.slice y.A y.n y.c) R.length (xs.reverse.map slV)) (hR : ∀ (k : Nat) (z : Sl) (r : List Int), xs[k]? = some z → R[k]? = some r → IsInts w2 z r) (hB : Below w2.heap.size w2 W) (hs : R.length ≤ 1000000) : IsRows W y R.reverse := by
  obtain ⟨A, n, k⟩ := y
  obtain ⟨A', c', e⟩ := slice_row hO
  simp only [Value.slice.injEq] at e
  obtain ⟨rfl, rfl, rfl⟩ := e
  refine ⟨by simp, by simp only; omega, fun h0 => ?_⟩
  simp only at h0 ⊢
  rcases hO.2 with ⟨e, h2⟩ | ⟨g, cap, cur, e, hb, hg, hn, hm, hs', ht⟩
  · omega
  · simp only [Value.slice.injEq] at e
    obtain ⟨rfl, -, rfl⟩ := e
    refine ⟨_, rfl, (Array.getElem?_eq_some_iff.1 hg).1, fun i hi => ?_⟩
    have hi : i < R.length := hi
    have hix : i < xs.length := by omega
    have hj : xs.length - 1 - i < xs.length := by omega
    refine ⟨xs[xs.length - 1 - i], ?_, ?_⟩
    · have := hO.cellAt i (by show i < R.length * 1; omega)
      rw [Addr.add_mid, Nat.zero_add, this, List.getElem?_map, List.getElem?_reverse hix, List.getElem?_eq_getElem hj]
      rfl
    · have h1 := hR (xs.length - 1 - i) xs[xs.length - 1 - i] (R[R.length - 1 - i]'(by omega)) (List.getElem?_eq_getElem hj) (by rw [hl]; exact List.getElem?_eq_getElem (by omega))
      rw [List.getD_eq_getElem?_getD, List.getElem?_reverse (by omega), List.getElem?_eq_getElem (by omega)]
      exact h1.below hB

set_option maxHeartbeats 8000000 in
set_option maxRecDepth 100000 in
theorem order_walk (zA zB zC x : Sl) (la lb lc a : List Int) (k K ch : Int) (w : World) (hE : EntIn w) (ha : IsNs .u8 w zA la) (hb : IsNs .u8 w zB lb) (hc : IsNs .i8 w zC lc) (ba : ∀ v ∈ la, 0 ≤ v ∧ v ≤ 255) (bb : ∀ v ∈ lb, 0 ≤ v ∧ v ≤ 255) (bc : ∀ v ∈ lc, -128 ≤ v ∧ v ≤ 127) (hk : 0 ≤ k ∧ k ≤ 255) (hK : -32768 ≤ K ∧ K ≤ 32767) (hch : 0 ≤ ch ∧ ch ≤ 255) (hx : IsNs .i64 w x a) :
    Calls Tryd.prog 4 #[smV zA zB zC k K ch, .slice x.A x.n x.c] w fun e w' => e = .returned (.bool true) ∧ Below w.heap.size w w' := by
  obtain ⟨wa, hwa⟩ : ∃ wa, w.alloc (.cells (smC zA zB zC k K ch) 26) = wa := ⟨_, rfl⟩
  have hba : Below w.heap.size w wa := hwa ▸ below1 w _
  have CN : Hid (Calls Tryd.prog 7 #[.slice x.A x.n x.c, .int .i64 5] wa fun e w' => (∃ y : Sl, e = .returned (.slice y.A y.n y.c) ∧ Row3 w' wa.heap.size y (mkL (nearE a) 5)) ∧ Below wa.heap.size wa w') := Lib.hid (near_any x a 5 wa (hx.below hba) (by omega))
  have CM : Hid (∀ W, Below wa.heap.size wa W → Calls Tryd.prog 5 #[smV zA zB zC k K ch, .int .i64 5] W fun e w' => (∃ v : ConV, e = .returned (v.val (makeE la lb lc k K ch 5).kind (makeE la lb lc k K ch 5).K) ∧ ConIn w' v (makeE la lb lc k K ch 5)) ∧ Below W.heap.size W w') := Lib.hid (fun W hW => make_any zA zB zC la lb lc k K ch 5 W ((ha.below hba).below hW) ((hb.below hba).below hW) ((hc.below hba).below hW) ba bb bc hk hK hch (by omega))
  have HZ : Hid (∀ W, Below wa.heap.size wa W → ∀ (j : Nat) (u : Value), (smC zA zB zC k K ch)[j]? = some u → W.cell? ⟨w.heap.size, j, none⟩ = some u) := Lib.hid (fun W hW j u hj => by
    have hlt : w.heap.size < wa.heap.size := hwa ▸ (by simp)
    rw [hW.cell (p := ⟨w.heap.size, j, none⟩) hlt, ← hwa]
    exact box_cell (heap_new w _) hj)
  have HE := Lib.hid (hE.below hba)
  have HBA := Lib.hid hba
  have HWA := Lib.hid hwa
  have SLM := Lib.hid (makeE_slim la lb lc k K ch 5)
  generalize makeE la lb lc k K ch 5 = c at CM SLM
  clear hE ha hb hc ba bb bc hk hK hch hx hba hwa
  go_enter Tryd.func4, Tryd.ntmps4
  go_upto_region 1 with fail
  change Code.wp _ _ _ _ (w.alloc (.cells (smC zA zB zC k K ch) 26))
  rw [HWA.out]
  clear HWA
  go_wp2_with fail
  refine CN.out.mono ?_
  rintro e w1 ⟨⟨y, rfl, hy⟩, b1⟩
  have B1 := Lib.hid b1
  have HY1 := Lib.hid hy
  have z0 := HZ.out w1 b1 0 _ rfl
  have z1 := HZ.out w1 b1 1 _ rfl
  have z2 := HZ.out w1 b1 2 _ rfl
  have z3 := HZ.out w1 b1 3 _ rfl
  have z4 := HZ.out w1 b1 4 _ rfl
  have z5 := HZ.out w1 b1 5 _ rfl
  clear CN HZ b1 hy
  go_wp2_with fail
  refine (CM.out w1 B1.out).mono ?_
  rintro e w2 ⟨⟨v, rfl, hv⟩, b2⟩
  have HV := Lib.hid hv
  have B2 := Lib.hid (B1.out.trans (b2.mono B1.out.size))
  have HY : Hid (IsInts w2 y (mkL (nearE a) 5)) := Lib.hid ((ints_own HY1.out (by rw [mkL_len]; omega)).below b2)
  have HE2 := Lib.hid (HE.out.below B2.out)
  clear HE z0 z1 z2 z3 z4 z5 CM HY1 B1 b2 hv
  generalize mkL (nearE a) 5 = Y at HY
  have hst := ob_start w2 v c.kind c.K
  obtain ⟨W0, hW0⟩ : ∃ W0, oBox w2 v c.kind c.K = W0 := ⟨_, rfl⟩
  have HB20 : Below w2.heap.size w2 W0 := hW0 ▸ (below1 w2 _).alloc (by simp) _
  rw [hW0] at hst
  have HO := Lib.hid hst
  have HW0 := Lib.hid hW0
  have B0 := Lib.hid HB20
  have CW : Hid (∀ W, Below w2.heap.size w2 W → Calls Tryd.prog 10 #[] W fun e w' => e = .returned (.bool true) ∧ Below W.heap.size W w') := Lib.hid (fun W hW => gwakes_any W (HE2.out.below hW))
  have CH : Hid (∀ W, Below w2.heap.size w2 W → Calls Tryd.prog 8 #[v.val c.kind c.K, .slice y.A y.n y.c] W fun e w' => e = .returned (.bool (holdsE c Y)) ∧ Below W.heap.size W w') := Lib.hid (fun W hW => gHolds_any v c y Y W (HE2.out.below hW) (HV.out.below hW) (HY.out.below hW))
  have CD : Hid (∀ W (vd : ConV), Below w2.heap.size w2 W → ConIn W vd (backC c) → Calls Tryd.prog 8 #[vd.val c.kind c.K, .slice y.A y.n y.c] W fun e w' => e = .returned (.bool (holdsE c Y)) ∧ Below W.heap.size W w') := Lib.hid (fun W vd hW hd => by
    have := gHolds_any vd (backC c) y Y W (HE2.out.below hW) hd (HY.out.below hW)
    rw [holds_back, back_kind, back_K] at this
    exact this)
  generalize holdsE c Y = HH at CH CD
  clear hst hW0 HB20 HE2
  go_upto_region 5 with fail
  change Code.wp _ _ _ _ (oBox w2 v c.kind c.K)
  rw [HW0.out]
  clear HW0
  have hc0 : W0.cell? ⟨w2.heap.size, 0, none⟩ = some (.int .i64 c.kind) := box_cell HO.out.c rfl
  have HFIN : Hid (∀ (Wd : World) (vd : ConV), Below w2.heap.size w2 Wd → OB w2.heap.size v vd c.kind c.K Wd → ConIn Wd vd (backC c) → ∀ W, Below Wd.heap.size Wd W →
      (W.cell? ⟨w2.heap.size, 0, none⟩ = some (.int .i64 c.kind) ∧ W.cell? ⟨w2.heap.size, 1, none⟩ = some (.slice v.a.A v.a.n v.a.c) ∧ W.cell? ⟨w2.heap.size, 2, none⟩ = some (.slice v.b.A v.b.n v.b.c) ∧ W.cell? ⟨w2.heap.size, 3, none⟩ = some (.slice v.c.A v.c.n v.c.c) ∧ W.cell? ⟨w2.heap.size, 4, none⟩ = some (.slice v.d.A v.d.n v.d.c) ∧ W.cell? ⟨w2.heap.size, 5, none⟩ = some (.slice v.e.A v.e.n v.e.c) ∧ W.cell? ⟨w2.heap.size, 6, none⟩ = some (.int .i64 c.K) ∧ W.cell? ⟨w2.heap.size, 7, none⟩ = some (.slice v.r.A v.r.n v.r.c)) ∧
      (W.cell? ⟨w2.heap.size + 1, 0, none⟩ = some (.int .i64 c.kind) ∧ W.cell? ⟨w2.heap.size + 1, 1, none⟩ = some (.slice vd.a.A vd.a.n vd.a.c) ∧ W.cell? ⟨w2.heap.size + 1, 2, none⟩ = some (.slice vd.b.A vd.b.n vd.b.c) ∧ W.cell? ⟨w2.heap.size + 1, 3, none⟩ = some (.slice vd.c.A vd.c.n vd.c.c) ∧ W.cell? ⟨w2.heap.size + 1, 4, none⟩ = some (.slice vd.d.A vd.d.n vd.d.c) ∧ W.cell? ⟨w2.heap.size + 1, 5, none⟩ = some (.slice vd.e.A vd.e.n vd.e.c) ∧ W.cell? ⟨w2.heap.size + 1, 6, none⟩ = some (.int .i64 c.K) ∧ W.cell? ⟨w2.heap.size + 1, 7, none⟩ = some (.slice vd.r.A vd.r.n vd.r.c))) := Lib.hid (fun Wd vd _ ho _ W hW => by
    have hw := ho.below hW
    exact ⟨⟨box_cell hw.c rfl, box_cell hw.c rfl, box_cell hw.c rfl, box_cell hw.c rfl, box_cell hw.c rfl, box_cell hw.c rfl, box_cell hw.c rfl, box_cell hw.c rfl⟩, ⟨box_cell hw.d rfl, box_cell hw.d rfl, box_cell hw.d rfl, box_cell hw.d rfl, box_cell hw.d rfl, box_cell hw.d rfl, box_cell hw.d rfl, box_cell hw.d rfl⟩⟩)
  have HL : Hid (w.heap.size ≤ w2.heap.size) := Lib.hid (Nat.le_trans HBA.out.size B2.out.size)
  have BW : Hid (Below w.heap.size w w2) := Lib.hid (HBA.out.trans (B2.out.mono HBA.out.size))
  clear HBA B2

  by_cases h1 : 1 ≤ c.kind ∧ c.kind ≤ 4
  · have hh : c.kind = 1 ∨ c.kind = 2 ∨ c.kind = 3 ∨ c.kind = 4 := by omega
    rcases hh with hq | hq | hq | hq
    · skip
      have e9 : backC c = { c with A := c.A.reverse, C := c.C.reverse } := by unfold backC; rw [if_pos h1]
      have hlt : w2.heap.size + 1 < W0.heap.size := (Array.getElem?_eq_some_iff.1 HO.out.d).1
      have HLT := Lib.hid hlt
      have HE9 := Lib.hid e9
      have CA : Hid (∀ W, Below W0.heap.size W0 W → Calls Tryd.prog 11 #[.slice v.a.A v.a.n v.a.c] W fun e w' => (∃ y : Sl, e = .returned (.slice y.A y.n y.c) ∧ Row3 w' W.heap.size y c.A.reverse) ∧ Below W.heap.size W w') := Lib.hid (fun W hW => back_any v.a c.A W ((HV.out.a.below B0.out).below hW) SLM.out.1)
      have CC : Hid (∀ W, Below W0.heap.size W0 W → Calls Tryd.prog 11 #[.slice v.c.A v.c.n v.c.c] W fun e w' => (∃ y : Sl, e = .returned (.slice y.A y.n y.c) ∧ Row3 w' W.heap.size y c.C.reverse) ∧ Below W.heap.size W w') := Lib.hid (fun W hW => back_any v.c c.C W ((HV.out.c.below B0.out).below hW) SLM.out.2.2.1)
      have HSS : Hid (∀ W, Below W0.heap.size W0 W → W.cell? ⟨w2.heap.size, 1, none⟩ = some (.slice v.a.A v.a.n v.a.c) ∧ W.cell? ⟨w2.heap.size + 1, 1, none⟩ = some (.slice v.a.A v.a.n v.a.c) ∧ W.frozen? ⟨w2.heap.size + 1, 1, none⟩ = false ∧ W.cell? ⟨w2.heap.size, 3, none⟩ = some (.slice v.c.A v.c.n v.c.c) ∧ W.cell? ⟨w2.heap.size + 1, 3, none⟩ = some (.slice v.c.A v.c.n v.c.c) ∧ W.frozen? ⟨w2.heap.size + 1, 3, none⟩ = false) := Lib.hid (fun W hW => by
        have o := HO.out.below hW
        exact ⟨box_cell o.c rfl, box_cell o.d rfl, box_free o.d _, box_cell o.c rfl, box_cell o.d rfl, box_free o.d _⟩)
      have t1 : (c.kind == 1) = true := by simp; omega
      clear hq
      clear h1
      clear hlt e9
      go_upto_region 10 with fail
      have hB : Below W0.heap.size W0 W0.drew := (Below.refl _ _).drew
      obtain ⟨p1, q1, r1, p3, q3, r3⟩ := HSS.out _ hB
      clear hc0
      go_region_held3 (fun W => W.cell? ⟨w2.heap.size, 1, none⟩ = some (.slice v.a.A v.a.n v.a.c) ∧ W.cell? ⟨w2.heap.size, 3, none⟩ = some (.slice v.c.A v.c.n v.c.c)) (first | exact ⟨p1, p3⟩ | assumption | exact ⟨(cell_next _ _ _ _ _).trans (by assumption), (cell_next _ _ _ _ _).trans (by assumption)⟩ | exact ⟨(cell_next _ _ _ _ _).trans ((cell_next _ _ _ _ _).trans (by assumption)), (cell_next _ _ _ _ _).trans ((cell_next _ _ _ _ _).trans (by assumption))⟩ | exact ⟨(cell_next _ _ _ _ _).trans ((cell_next _ _ _ _ _).trans ((cell_next _ _ _ _ _).trans (by assumption))), (cell_next _ _ _ _ _).trans ((cell_next _ _ _ _ _).trans ((cell_next _ _ _ _ _).trans (by assumption)))⟩)
        (first
          | (with_reducible refine (CA.out _ hB).mono ?_; rintro e wA ⟨⟨yA, rfl, hyA⟩, bA⟩; have HA := Lib.hid (hyA.base hB.size); (try have HC := Lib.hid (HC.out.step bA)); have hB := hB.trans (bA.mono hB.size); obtain ⟨p1, q1, r1, p3, q3, r3⟩ := HSS.out _ hB; clear hyA bA)
          | (with_reducible refine (CC.out _ hB).mono ?_; rintro e wC ⟨⟨yC, rfl, hyC⟩, bC⟩; have HC := Lib.hid (hyC.base hB.size); (try have HA := Lib.hid (HA.out.step bC)); have hB := hB.trans (bC.mono hB.size); obtain ⟨p1, q1, r1, p3, q3, r3⟩ := HSS.out _ hB; clear hyC bC)
          | fail)
      all_goals
          have hBL := B0.out.trans (hB.mono B0.out.size)
          have hOB := (⟨(hB.block _ (by have := HLT.out; omega)).trans HO.out.c, (hB.block _ HLT.out).trans HO.out.d⟩ : OB w2.heap.size v v c.kind c.K _)
          have HBF := Lib.hid (low_put (low_put hBL (g := w2.heap.size + 1) (by omega) 1 (.slice yA.A yA.n yA.c)) (g := w2.heap.size + 1) (by omega) 3 (.slice yC.A yC.n yC.c))
          have HOF := Lib.hid (OB.put (vd' := { v with a := yA, c := yC }) (OB.put (vd' := { v with a := yA }) hOB 1 (.slice yA.A yA.n yA.c) rfl) 3 (.slice yC.A yC.n yC.c) rfl)
          have HDF : Hid (ConIn _ { v with a := yA, c := yC } (backC c)) := Lib.hid (by
            have hv4 := HV.out.below HBF.out
            rw [HE9.out]
            exact ⟨((HA.out.put HLT.out 1 (.slice yA.A yA.n yA.c)).put HLT.out 3 (.slice yC.A yC.n yC.c)).cells' (by rw [List.length_reverse]; exact SLM.out.1), hv4.b, ((HC.out.put HLT.out 1 (.slice yA.A yA.n yA.c)).put HLT.out 3 (.slice yC.A yC.n yC.c)).cells' (by rw [List.length_reverse]; exact SLM.out.2.2.1), hv4.d, hv4.e, hv4.r⟩)
          clear p1  q1  r1  p3  q3  r3 hB hBL hOB HSS CA CC
          go_upto_region 21 with fail
          have CWq := Lib.hid (bo_regrown (fun W hW => CW.out W (HBF.out.trans (hW.mono HBF.out.size))))
          have CHq := Lib.hid (bo_regrown (fun W hW => CH.out W (HBF.out.trans (hW.mono HBF.out.size))))
          have CDq := Lib.hid (bo_regrown (fun W hW => CD.out W _ (HBF.out.trans (hW.mono HBF.out.size)) (HDF.out.below hW)))
          obtain ⟨⟨a0, a1, a2, a3, a4, a5, a6, a7⟩, d0, d1, d2, d3, d4, d5, d6, d7⟩ := HFIN.out _ _ HBF.out HOF.out HDF.out _ (Below.refl _ _)
          have ka0 := cell_regrown a0
          have ka1 := cell_regrown a1
          have ka2 := cell_regrown a2
          have ka3 := cell_regrown a3
          have ka4 := cell_regrown a4
          have ka5 := cell_regrown a5
          have ka6 := cell_regrown a6
          have ka7 := cell_regrown a7
          have kd0 := cell_regrown d0
          have kd1 := cell_regrown d1
          have kd2 := cell_regrown d2
          have kd3 := cell_regrown d3
          have kd4 := cell_regrown d4
          have kd5 := cell_regrown d5
          have kd6 := cell_regrown d6
          have kd7 := cell_regrown d7
          clear a0 a1 a2 a3 a4 a5 a6 a7 d0 d1 d2 d3 d4 d5 d6 d7 CW CH CD HFIN
          refine wp_region_quiet_below (by kernel_rfl) (by kernel_rfl) ?_
          repeat (first | go_big_quiet_step (first | (go_at_call 10; with_reducible exact CWq.out _ _) | (go_at_call 8; first | (with_reducible exact CHq.out _ _) | (with_reducible exact CDq.out _ _))) | quiet_step (first | (go_at_call 10; with_reducible exact CWq.out _ _) | (go_at_call 8; first | (with_reducible exact CHq.out _ _) | (with_reducible exact CDq.out _ _))))
          refine wpQuiet_nil ?_
          intro W6 hw'
          have B6 := Lib.hid (low_regrown HBF.out hw')
          clear ka0 ka1 ka2 ka3 ka4 ka5 ka6 ka7 kd0 kd1 kd2 kd3 kd4 kd5 kd6 kd7 CWq CHq CDq hw'
          go_wp2_with fail
          go_ret
          exact ⟨ret_bool (by simp), BW.out.trans (B6.out.mono HL.out)⟩
    · skip
      have e9 : backC c = { c with A := c.A.reverse, C := c.C.reverse } := by unfold backC; rw [if_pos h1]
      have hlt : w2.heap.size + 1 < W0.heap.size := (Array.getElem?_eq_some_iff.1 HO.out.d).1
      have HLT := Lib.hid hlt
      have HE9 := Lib.hid e9
      have CA : Hid (∀ W, Below W0.heap.size W0 W → Calls Tryd.prog 11 #[.slice v.a.A v.a.n v.a.c] W fun e w' => (∃ y : Sl, e = .returned (.slice y.A y.n y.c) ∧ Row3 w' W.heap.size y c.A.reverse) ∧ Below W.heap.size W w') := Lib.hid (fun W hW => back_any v.a c.A W ((HV.out.a.below B0.out).below hW) SLM.out.1)
      have CC : Hid (∀ W, Below W0.heap.size W0 W → Calls Tryd.prog 11 #[.slice v.c.A v.c.n v.c.c] W fun e w' => (∃ y : Sl, e = .returned (.slice y.A y.n y.c) ∧ Row3 w' W.heap.size y c.C.reverse) ∧ Below W.heap.size W w') := Lib.hid (fun W hW => back_any v.c c.C W ((HV.out.c.below B0.out).below hW) SLM.out.2.2.1)
      have HSS : Hid (∀ W, Below W0.heap.size W0 W → W.cell? ⟨w2.heap.size, 1, none⟩ = some (.slice v.a.A v.a.n v.a.c) ∧ W.cell? ⟨w2.heap.size + 1, 1, none⟩ = some (.slice v.a.A v.a.n v.a.c) ∧ W.frozen? ⟨w2.heap.size + 1, 1, none⟩ = false ∧ W.cell? ⟨w2.heap.size, 3, none⟩ = some (.slice v.c.A v.c.n v.c.c) ∧ W.cell? ⟨w2.heap.size + 1, 3, none⟩ = some (.slice v.c.A v.c.n v.c.c) ∧ W.frozen? ⟨w2.heap.size + 1, 3, none⟩ = false) := Lib.hid (fun W hW => by
        have o := HO.out.below hW
        exact ⟨box_cell o.c rfl, box_cell o.d rfl, box_free o.d _, box_cell o.c rfl, box_cell o.d rfl, box_free o.d _⟩)
      have t1 : (c.kind == 1) = false := by simp; omega
      have t2 : (c.kind == 2) = true := by simp; omega
      clear hq
      clear h1
      clear hlt e9
      go_upto_region 10 with fail
      have hB : Below W0.heap.size W0 W0.drew := (Below.refl _ _).drew
      obtain ⟨p1, q1, r1, p3, q3, r3⟩ := HSS.out _ hB
      clear hc0
      go_region_held3 (fun W => W.cell? ⟨w2.heap.size, 1, none⟩ = some (.slice v.a.A v.a.n v.a.c) ∧ W.cell? ⟨w2.heap.size, 3, none⟩ = some (.slice v.c.A v.c.n v.c.c)) (first | exact ⟨p1, p3⟩ | assumption | exact ⟨(cell_next _ _ _ _ _).trans (by assumption), (cell_next _ _ _ _ _).trans (by assumption)⟩ | exact ⟨(cell_next _ _ _ _ _).trans ((cell_next _ _ _ _ _).trans (by assumption)), (cell_next _ _ _ _ _).trans ((cell_next _ _ _ _ _).trans (by assumption))⟩ | exact ⟨(cell_next _ _ _ _ _).trans ((cell_next _ _ _ _ _).trans ((cell_next _ _ _ _ _).trans (by assumption))), (cell_next _ _ _ _ _).trans ((cell_next _ _ _ _ _).trans ((cell_next _ _ _ _ _).trans (by assumption)))⟩)
        (first
          | (with_reducible refine (CA.out _ hB).mono ?_; rintro e wA ⟨⟨yA, rfl, hyA⟩, bA⟩; have HA := Lib.hid (hyA.base hB.size); (try have HC := Lib.hid (HC.out.step bA)); have hB := hB.trans (bA.mono hB.size); obtain ⟨p1, q1, r1, p3, q3, r3⟩ := HSS.out _ hB; clear hyA bA)
          | (with_reducible refine (CC.out _ hB).mono ?_; rintro e wC ⟨⟨yC, rfl, hyC⟩, bC⟩; have HC := Lib.hid (hyC.base hB.size); (try have HA := Lib.hid (HA.out.step bC)); have hB := hB.trans (bC.mono hB.size); obtain ⟨p1, q1, r1, p3, q3, r3⟩ := HSS.out _ hB; clear hyC bC)
          | fail)
      all_goals
          have hBL := B0.out.trans (hB.mono B0.out.size)
          have hOB := (⟨(hB.block _ (by have := HLT.out; omega)).trans HO.out.c, (hB.block _ HLT.out).trans HO.out.d⟩ : OB w2.heap.size v v c.kind c.K _)
          have HBF := Lib.hid (low_put (low_put hBL (g := w2.heap.size + 1) (by omega) 1 (.slice yA.A yA.n yA.c)) (g := w2.heap.size + 1) (by omega) 3 (.slice yC.A yC.n yC.c))
          have HOF := Lib.hid (OB.put (vd' := { v with a := yA, c := yC }) (OB.put (vd' := { v with a := yA }) hOB 1 (.slice yA.A yA.n yA.c) rfl) 3 (.slice yC.A yC.n yC.c) rfl)
          have HDF : Hid (ConIn _ { v with a := yA, c := yC } (backC c)) := Lib.hid (by
            have hv4 := HV.out.below HBF.out
            rw [HE9.out]
            exact ⟨((HA.out.put HLT.out 1 (.slice yA.A yA.n yA.c)).put HLT.out 3 (.slice yC.A yC.n yC.c)).cells' (by rw [List.length_reverse]; exact SLM.out.1), hv4.b, ((HC.out.put HLT.out 1 (.slice yA.A yA.n yA.c)).put HLT.out 3 (.slice yC.A yC.n yC.c)).cells' (by rw [List.length_reverse]; exact SLM.out.2.2.1), hv4.d, hv4.e, hv4.r⟩)
          clear p1  q1  r1  p3  q3  r3 hB hBL hOB HSS CA CC
          go_upto_region 21 with fail
          have CWq := Lib.hid (bo_regrown (fun W hW => CW.out W (HBF.out.trans (hW.mono HBF.out.size))))
          have CHq := Lib.hid (bo_regrown (fun W hW => CH.out W (HBF.out.trans (hW.mono HBF.out.size))))
          have CDq := Lib.hid (bo_regrown (fun W hW => CD.out W _ (HBF.out.trans (hW.mono HBF.out.size)) (HDF.out.below hW)))
          obtain ⟨⟨a0, a1, a2, a3, a4, a5, a6, a7⟩, d0, d1, d2, d3, d4, d5, d6, d7⟩ := HFIN.out _ _ HBF.out HOF.out HDF.out _ (Below.refl _ _)
          have ka0 := cell_regrown a0
          have ka1 := cell_regrown a1
          have ka2 := cell_regrown a2
          have ka3 := cell_regrown a3
          have ka4 := cell_regrown a4
          have ka5 := cell_regrown a5
          have ka6 := cell_regrown a6
          have ka7 := cell_regrown a7
          have kd0 := cell_regrown d0
          have kd1 := cell_regrown d1
          have kd2 := cell_regrown d2
          have kd3 := cell_regrown d3
          have kd4 := cell_regrown d4
          have kd5 := cell_regrown d5
          have kd6 := cell_regrown d6
          have kd7 := cell_regrown d7
          clear a0 a1 a2 a3 a4 a5 a6 a7 d0 d1 d2 d3 d4 d5 d6 d7 CW CH CD HFIN
          refine wp_region_quiet_below (by kernel_rfl) (by kernel_rfl) ?_
          repeat (first | go_big_quiet_step (first | (go_at_call 10; with_reducible exact CWq.out _ _) | (go_at_call 8; first | (with_reducible exact CHq.out _ _) | (with_reducible exact CDq.out _ _))) | quiet_step (first | (go_at_call 10; with_reducible exact CWq.out _ _) | (go_at_call 8; first | (with_reducible exact CHq.out _ _) | (with_reducible exact CDq.out _ _))))
          refine wpQuiet_nil ?_
          intro W6 hw'
          have B6 := Lib.hid (low_regrown HBF.out hw')
          clear ka0 ka1 ka2 ka3 ka4 ka5 ka6 ka7 kd0 kd1 kd2 kd3 kd4 kd5 kd6 kd7 CWq CHq CDq hw'
          go_wp2_with fail
          go_ret
          exact ⟨ret_bool (by simp), BW.out.trans (B6.out.mono HL.out)⟩
    · skip
      have e9 : backC c = { c with A := c.A.reverse, C := c.C.reverse } := by unfold backC; rw [if_pos h1]
      have hlt : w2.heap.size + 1 < W0.heap.size := (Array.getElem?_eq_some_iff.1 HO.out.d).1
      have HLT := Lib.hid hlt
      have HE9 := Lib.hid e9
      have CA : Hid (∀ W, Below W0.heap.size W0 W → Calls Tryd.prog 11 #[.slice v.a.A v.a.n v.a.c] W fun e w' => (∃ y : Sl, e = .returned (.slice y.A y.n y.c) ∧ Row3 w' W.heap.size y c.A.reverse) ∧ Below W.heap.size W w') := Lib.hid (fun W hW => back_any v.a c.A W ((HV.out.a.below B0.out).below hW) SLM.out.1)
      have CC : Hid (∀ W, Below W0.heap.size W0 W → Calls Tryd.prog 11 #[.slice v.c.A v.c.n v.c.c] W fun e w' => (∃ y : Sl, e = .returned (.slice y.A y.n y.c) ∧ Row3 w' W.heap.size y c.C.reverse) ∧ Below W.heap.size W w') := Lib.hid (fun W hW => back_any v.c c.C W ((HV.out.c.below B0.out).below hW) SLM.out.2.2.1)
      have HSS : Hid (∀ W, Below W0.heap.size W0 W → W.cell? ⟨w2.heap.size, 1, none⟩ = some (.slice v.a.A v.a.n v.a.c) ∧ W.cell? ⟨w2.heap.size + 1, 1, none⟩ = some (.slice v.a.A v.a.n v.a.c) ∧ W.frozen? ⟨w2.heap.size + 1, 1, none⟩ = false ∧ W.cell? ⟨w2.heap.size, 3, none⟩ = some (.slice v.c.A v.c.n v.c.c) ∧ W.cell? ⟨w2.heap.size + 1, 3, none⟩ = some (.slice v.c.A v.c.n v.c.c) ∧ W.frozen? ⟨w2.heap.size + 1, 3, none⟩ = false) := Lib.hid (fun W hW => by
        have o := HO.out.below hW
        exact ⟨box_cell o.c rfl, box_cell o.d rfl, box_free o.d _, box_cell o.c rfl, box_cell o.d rfl, box_free o.d _⟩)
      have t1 : (c.kind == 1) = false := by simp; omega
      have t2 : (c.kind == 2) = false := by simp; omega
      have t3 : (c.kind == 3) = true := by simp; omega
      clear hq
      clear h1
      clear hlt e9
      go_upto_region 10 with fail
      have hB : Below W0.heap.size W0 W0.drew := (Below.refl _ _).drew
      obtain ⟨p1, q1, r1, p3, q3, r3⟩ := HSS.out _ hB
      clear hc0
      go_region_held3 (fun W => W.cell? ⟨w2.heap.size, 1, none⟩ = some (.slice v.a.A v.a.n v.a.c) ∧ W.cell? ⟨w2.heap.size, 3, none⟩ = some (.slice v.c.A v.c.n v.c.c)) (first | exact ⟨p1, p3⟩ | assumption | exact ⟨(cell_next _ _ _ _ _).trans (by assumption), (cell_next _ _ _ _ _).trans (by assumption)⟩ | exact ⟨(cell_next _ _ _ _ _).trans ((cell_next _ _ _ _ _).trans (by assumption)), (cell_next _ _ _ _ _).trans ((cell_next _ _ _ _ _).trans (by assumption))⟩ | exact ⟨(cell_next _ _ _ _ _).trans ((cell_next _ _ _ _ _).trans ((cell_next _ _ _ _ _).trans (by assumption))), (cell_next _ _ _ _ _).trans ((cell_next _ _ _ _ _).trans ((cell_next _ _ _ _ _).trans (by assumption)))⟩)
        (first
          | (with_reducible refine (CA.out _ hB).mono ?_; rintro e wA ⟨⟨yA, rfl, hyA⟩, bA⟩; have HA := Lib.hid (hyA.base hB.size); (try have HC := Lib.hid (HC.out.step bA)); have hB := hB.trans (bA.mono hB.size); obtain ⟨p1, q1, r1, p3, q3, r3⟩ := HSS.out _ hB; clear hyA bA)
          | (with_reducible refine (CC.out _ hB).mono ?_; rintro e wC ⟨⟨yC, rfl, hyC⟩, bC⟩; have HC := Lib.hid (hyC.base hB.size); (try have HA := Lib.hid (HA.out.step bC)); have hB := hB.trans (bC.mono hB.size); obtain ⟨p1, q1, r1, p3, q3, r3⟩ := HSS.out _ hB; clear hyC bC)
          | fail)
      all_goals
          have hBL := B0.out.trans (hB.mono B0.out.size)
          have hOB := (⟨(hB.block _ (by have := HLT.out; omega)).trans HO.out.c, (hB.block _ HLT.out).trans HO.out.d⟩ : OB w2.heap.size v v c.kind c.K _)
          have HBF := Lib.hid (low_put (low_put hBL (g := w2.heap.size + 1) (by omega) 1 (.slice yA.A yA.n yA.c)) (g := w2.heap.size + 1) (by omega) 3 (.slice yC.A yC.n yC.c))
          have HOF := Lib.hid (OB.put (vd' := { v with a := yA, c := yC }) (OB.put (vd' := { v with a := yA }) hOB 1 (.slice yA.A yA.n yA.c) rfl) 3 (.slice yC.A yC.n yC.c) rfl)
          have HDF : Hid (ConIn _ { v with a := yA, c := yC } (backC c)) := Lib.hid (by
            have hv4 := HV.out.below HBF.out
            rw [HE9.out]
            exact ⟨((HA.out.put HLT.out 1 (.slice yA.A yA.n yA.c)).put HLT.out 3 (.slice yC.A yC.n yC.c)).cells' (by rw [List.length_reverse]; exact SLM.out.1), hv4.b, ((HC.out.put HLT.out 1 (.slice yA.A yA.n yA.c)).put HLT.out 3 (.slice yC.A yC.n yC.c)).cells' (by rw [List.length_reverse]; exact SLM.out.2.2.1), hv4.d, hv4.e, hv4.r⟩)
          clear p1  q1  r1  p3  q3  r3 hB hBL hOB HSS CA CC
          go_upto_region 21 with fail
          have CWq := Lib.hid (bo_regrown (fun W hW => CW.out W (HBF.out.trans (hW.mono HBF.out.size))))
          have CHq := Lib.hid (bo_regrown (fun W hW => CH.out W (HBF.out.trans (hW.mono HBF.out.size))))
          have CDq := Lib.hid (bo_regrown (fun W hW => CD.out W _ (HBF.out.trans (hW.mono HBF.out.size)) (HDF.out.below hW)))
          obtain ⟨⟨a0, a1, a2, a3, a4, a5, a6, a7⟩, d0, d1, d2, d3, d4, d5, d6, d7⟩ := HFIN.out _ _ HBF.out HOF.out HDF.out _ (Below.refl _ _)
          have ka0 := cell_regrown a0
          have ka1 := cell_regrown a1
          have ka2 := cell_regrown a2
          have ka3 := cell_regrown a3
          have ka4 := cell_regrown a4
          have ka5 := cell_regrown a5
          have ka6 := cell_regrown a6
          have ka7 := cell_regrown a7
          have kd0 := cell_regrown d0
          have kd1 := cell_regrown d1
          have kd2 := cell_regrown d2
          have kd3 := cell_regrown d3
          have kd4 := cell_regrown d4
          have kd5 := cell_regrown d5
          have kd6 := cell_regrown d6
          have kd7 := cell_regrown d7
          clear a0 a1 a2 a3 a4 a5 a6 a7 d0 d1 d2 d3 d4 d5 d6 d7 CW CH CD HFIN
          refine wp_region_quiet_below (by kernel_rfl) (by kernel_rfl) ?_
          repeat (first | go_big_quiet_step (first | (go_at_call 10; with_reducible exact CWq.out _ _) | (go_at_call 8; first | (with_reducible exact CHq.out _ _) | (with_reducible exact CDq.out _ _))) | quiet_step (first | (go_at_call 10; with_reducible exact CWq.out _ _) | (go_at_call 8; first | (with_reducible exact CHq.out _ _) | (with_reducible exact CDq.out _ _))))
          refine wpQuiet_nil ?_
          intro W6 hw'
          have B6 := Lib.hid (low_regrown HBF.out hw')
          clear ka0 ka1 ka2 ka3 ka4 ka5 ka6 ka7 kd0 kd1 kd2 kd3 kd4 kd5 kd6 kd7 CWq CHq CDq hw'
          go_wp2_with fail
          go_ret
          exact ⟨ret_bool (by simp), BW.out.trans (B6.out.mono HL.out)⟩
    · skip
      have e9 : backC c = { c with A := c.A.reverse, C := c.C.reverse } := by unfold backC; rw [if_pos h1]
      have hlt : w2.heap.size + 1 < W0.heap.size := (Array.getElem?_eq_some_iff.1 HO.out.d).1
      have HLT := Lib.hid hlt
      have HE9 := Lib.hid e9
      have CA : Hid (∀ W, Below W0.heap.size W0 W → Calls Tryd.prog 11 #[.slice v.a.A v.a.n v.a.c] W fun e w' => (∃ y : Sl, e = .returned (.slice y.A y.n y.c) ∧ Row3 w' W.heap.size y c.A.reverse) ∧ Below W.heap.size W w') := Lib.hid (fun W hW => back_any v.a c.A W ((HV.out.a.below B0.out).below hW) SLM.out.1)
      have CC : Hid (∀ W, Below W0.heap.size W0 W → Calls Tryd.prog 11 #[.slice v.c.A v.c.n v.c.c] W fun e w' => (∃ y : Sl, e = .returned (.slice y.A y.n y.c) ∧ Row3 w' W.heap.size y c.C.reverse) ∧ Below W.heap.size W w') := Lib.hid (fun W hW => back_any v.c c.C W ((HV.out.c.below B0.out).below hW) SLM.out.2.2.1)
      have HSS : Hid (∀ W, Below W0.heap.size W0 W → W.cell? ⟨w2.heap.size, 1, none⟩ = some (.slice v.a.A v.a.n v.a.c) ∧ W.cell? ⟨w2.heap.size + 1, 1, none⟩ = some (.slice v.a.A v.a.n v.a.c) ∧ W.frozen? ⟨w2.heap.size + 1, 1, none⟩ = false ∧ W.cell? ⟨w2.heap.size, 3, none⟩ = some (.slice v.c.A v.c.n v.c.c) ∧ W.cell? ⟨w2.heap.size + 1, 3, none⟩ = some (.slice v.c.A v.c.n v.c.c) ∧ W.frozen? ⟨w2.heap.size + 1, 3, none⟩ = false) := Lib.hid (fun W hW => by
        have o := HO.out.below hW
        exact ⟨box_cell o.c rfl, box_cell o.d rfl, box_free o.d _, box_cell o.c rfl, box_cell o.d rfl, box_free o.d _⟩)
      have t1 : (c.kind == 1) = false := by simp; omega
      have t2 : (c.kind == 2) = false := by simp; omega
      have t3 : (c.kind == 3) = false := by simp; omega
      have t4 : (c.kind == 4) = true := by simp; omega
      clear hq
      clear h1
      clear hlt e9
      go_upto_region 10 with fail
      have hB : Below W0.heap.size W0 W0.drew := (Below.refl _ _).drew
      obtain ⟨p1, q1, r1, p3, q3, r3⟩ := HSS.out _ hB
      clear hc0
      go_region_held3 (fun W => W.cell? ⟨w2.heap.size, 1, none⟩ = some (.slice v.a.A v.a.n v.a.c) ∧ W.cell? ⟨w2.heap.size, 3, none⟩ = some (.slice v.c.A v.c.n v.c.c)) (first | exact ⟨p1, p3⟩ | assumption | exact ⟨(cell_next _ _ _ _ _).trans (by assumption), (cell_next _ _ _ _ _).trans (by assumption)⟩ | exact ⟨(cell_next _ _ _ _ _).trans ((cell_next _ _ _ _ _).trans (by assumption)), (cell_next _ _ _ _ _).trans ((cell_next _ _ _ _ _).trans (by assumption))⟩ | exact ⟨(cell_next _ _ _ _ _).trans ((cell_next _ _ _ _ _).trans ((cell_next _ _ _ _ _).trans (by assumption))), (cell_next _ _ _ _ _).trans ((cell_next _ _ _ _ _).trans ((cell_next _ _ _ _ _).trans (by assumption)))⟩)
        (first
          | (with_reducible refine (CA.out _ hB).mono ?_; rintro e wA ⟨⟨yA, rfl, hyA⟩, bA⟩; have HA := Lib.hid (hyA.base hB.size); (try have HC := Lib.hid (HC.out.step bA)); have hB := hB.trans (bA.mono hB.size); obtain ⟨p1, q1, r1, p3, q3, r3⟩ := HSS.out _ hB; clear hyA bA)
          | (with_reducible refine (CC.out _ hB).mono ?_; rintro e wC ⟨⟨yC, rfl, hyC⟩, bC⟩; have HC := Lib.hid (hyC.base hB.size); (try have HA := Lib.hid (HA.out.step bC)); have hB := hB.trans (bC.mono hB.size); obtain ⟨p1, q1, r1, p3, q3, r3⟩ := HSS.out _ hB; clear hyC bC)
          | fail)
      all_goals
          have hBL := B0.out.trans (hB.mono B0.out.size)
          have hOB := (⟨(hB.block _ (by have := HLT.out; omega)).trans HO.out.c, (hB.block _ HLT.out).trans HO.out.d⟩ : OB w2.heap.size v v c.kind c.K _)
          have HBF := Lib.hid (low_put (low_put hBL (g := w2.heap.size + 1) (by omega) 1 (.slice yA.A yA.n yA.c)) (g := w2.heap.size + 1) (by omega) 3 (.slice yC.A yC.n yC.c))
          have HOF := Lib.hid (OB.put (vd' := { v with a := yA, c := yC }) (OB.put (vd' := { v with a := yA }) hOB 1 (.slice yA.A yA.n yA.c) rfl) 3 (.slice yC.A yC.n yC.c) rfl)
          have HDF : Hid (ConIn _ { v with a := yA, c := yC } (backC c)) := Lib.hid (by
            have hv4 := HV.out.below HBF.out
            rw [HE9.out]
            exact ⟨((HA.out.put HLT.out 1 (.slice yA.A yA.n yA.c)).put HLT.out 3 (.slice yC.A yC.n yC.c)).cells' (by rw [List.length_reverse]; exact SLM.out.1), hv4.b, ((HC.out.put HLT.out 1 (.slice yA.A yA.n yA.c)).put HLT.out 3 (.slice yC.A yC.n yC.c)).cells' (by rw [List.length_reverse]; exact SLM.out.2.2.1), hv4.d, hv4.e, hv4.r⟩)
          clear p1  q1  r1  p3  q3  r3 hB hBL hOB HSS CA CC
          go_upto_region 21 with fail
          have CWq := Lib.hid (bo_regrown (fun W hW => CW.out W (HBF.out.trans (hW.mono HBF.out.size))))
          have CHq := Lib.hid (bo_regrown (fun W hW => CH.out W (HBF.out.trans (hW.mono HBF.out.size))))
          have CDq := Lib.hid (bo_regrown (fun W hW => CD.out W _ (HBF.out.trans (hW.mono HBF.out.size)) (HDF.out.below hW)))
          obtain ⟨⟨a0, a1, a2, a3, a4, a5, a6, a7⟩, d0, d1, d2, d3, d4, d5, d6, d7⟩ := HFIN.out _ _ HBF.out HOF.out HDF.out _ (Below.refl _ _)
          have ka0 := cell_regrown a0
          have ka1 := cell_regrown a1
          have ka2 := cell_regrown a2
          have ka3 := cell_regrown a3
          have ka4 := cell_regrown a4
          have ka5 := cell_regrown a5
          have ka6 := cell_regrown a6
          have ka7 := cell_regrown a7
          have kd0 := cell_regrown d0
          have kd1 := cell_regrown d1
          have kd2 := cell_regrown d2
          have kd3 := cell_regrown d3
          have kd4 := cell_regrown d4
          have kd5 := cell_regrown d5
          have kd6 := cell_regrown d6
          have kd7 := cell_regrown d7
          clear a0 a1 a2 a3 a4 a5 a6 a7 d0 d1 d2 d3 d4 d5 d6 d7 CW CH CD HFIN
          refine wp_region_quiet_below (by kernel_rfl) (by kernel_rfl) ?_
          repeat (first | go_big_quiet_step (first | (go_at_call 10; with_reducible exact CWq.out _ _) | (go_at_call 8; first | (with_reducible exact CHq.out _ _) | (with_reducible exact CDq.out _ _))) | quiet_step (first | (go_at_call 10; with_reducible exact CWq.out _ _) | (go_at_call 8; first | (with_reducible exact CHq.out _ _) | (with_reducible exact CDq.out _ _))))
          refine wpQuiet_nil ?_
          intro W6 hw'
          have B6 := Lib.hid (low_regrown HBF.out hw')
          clear ka0 ka1 ka2 ka3 ka4 ka5 ka6 ka7 kd0 kd1 kd2 kd3 kd4 kd5 kd6 kd7 CWq CHq CDq hw'
          go_wp2_with fail
          go_ret
          exact ⟨ret_bool (by simp), BW.out.trans (B6.out.mono HL.out)⟩
  · by_cases h17 : c.kind = 17
    · skip
      have e9 : backC c = { c with A := c.A.reverse } := by unfold backC; rw [if_neg (by omega), if_pos (by omega)]
      have hc1 : W0.cell? ⟨w2.heap.size, 1, none⟩ = some (.slice v.a.A v.a.n v.a.c) := box_cell HO.out.c rfl
      have CB := Lib.hid (back_any v.a c.A W0 (HV.out.a.below B0.out) SLM.out.1)
      have t1 : (c.kind == 1) = false := by simp; omega
      have t2 : (c.kind == 2) = false := by simp; omega
      have t3 : (c.kind == 3) = false := by simp; omega
      have t4 : (c.kind == 4) = false := by simp; omega
      have t17 : (c.kind == 17) = true := by simp; omega
      clear h1 h17
      go_wp2_with fail
      refine CB.out.mono ?_
      rintro e w3 ⟨⟨yA, rfl, hyA⟩, b3⟩
      have o3 := HO.out.below b3
      have x1 : w3.cell? ⟨w2.heap.size + 1, 1, none⟩ = some (.slice v.a.A v.a.n v.a.c) := box_cell o3.d rfl
      have f1 := box_free o3.d 1
      have hlt : w2.heap.size + 1 < W0.heap.size := (Array.getElem?_eq_some_iff.1 HO.out.d).1
      have HO4 : Hid (OB w2.heap.size v { v with a := yA } c.kind c.K (w3.setCell ⟨w2.heap.size + 1, 1, none⟩ (.slice yA.A yA.n yA.c))) := Lib.hid (o3.put 1 _ rfl)
      have B4 : Hid (Below w2.heap.size w2 (w3.setCell ⟨w2.heap.size + 1, 1, none⟩ (.slice yA.A yA.n yA.c))) := Lib.hid (low_put (B0.out.trans (b3.mono B0.out.size)) (by omega) 1 _)
      have HD4 : Hid (ConIn (w3.setCell ⟨w2.heap.size + 1, 1, none⟩ (.slice yA.A yA.n yA.c)) { v with a := yA } (backC c)) := Lib.hid (by
        have hv4 := HV.out.below B4.out
        rw [e9]
        exact ⟨(hyA.put hlt 1 _).cells' (by rw [List.length_reverse]; exact SLM.out.1), hv4.b, hv4.c, hv4.d, hv4.e, hv4.r⟩)
      obtain ⟨vd, hvd⟩ : ∃ vd, vd = ({ v with a := yA } : ConV) := ⟨_, rfl⟩
      rw [← hvd] at HO4 HD4
      clear hyA b3 o3 hlt e9 CB HO B0 hc1 hvd
      go_upto_region 21 with fail
      generalize (w3.setCell ⟨w2.heap.size + 1, 1, none⟩ (.slice yA.A yA.n yA.c)) = W4 at *
      clear x1 f1

      have CWq := Lib.hid (bo_regrown (w := W4) (fun W hW => CW.out W (B4.out.trans (hW.mono B4.out.size))))
      have CHq := Lib.hid (bo_regrown (w := W4) (fun W hW => CH.out W (B4.out.trans (hW.mono B4.out.size))))
      have CDq := Lib.hid (bo_regrown (w := W4) (fun W hW => CD.out W vd (B4.out.trans (hW.mono B4.out.size)) (HD4.out.below hW)))
      obtain ⟨⟨a0, a1, a2, a3, a4, a5, a6, a7⟩, d0, d1, d2, d3, d4, d5, d6, d7⟩ := HFIN.out W4 vd B4.out HO4.out HD4.out W4 (Below.refl _ _)
      have ka0 := cell_regrown a0
      have ka1 := cell_regrown a1
      have ka2 := cell_regrown a2
      have ka3 := cell_regrown a3
      have ka4 := cell_regrown a4
      have ka5 := cell_regrown a5
      have ka6 := cell_regrown a6
      have ka7 := cell_regrown a7
      have kd0 := cell_regrown d0
      have kd1 := cell_regrown d1
      have kd2 := cell_regrown d2
      have kd3 := cell_regrown d3
      have kd4 := cell_regrown d4
      have kd5 := cell_regrown d5
      have kd6 := cell_regrown d6
      have kd7 := cell_regrown d7
      clear a0 a1 a2 a3 a4 a5 a6 a7 d0 d1 d2 d3 d4 d5 d6 d7 CW CH CD HFIN
      refine wp_region_quiet_below (by kernel_rfl) (by kernel_rfl) ?_
      repeat (first | go_big_quiet_step (first | (go_at_call 10; with_reducible exact CWq.out _ _) | (go_at_call 8; first | (with_reducible exact CHq.out _ _) | (with_reducible exact CDq.out _ _))) | quiet_step (first | (go_at_call 10; with_reducible exact CWq.out _ _) | (go_at_call 8; first | (with_reducible exact CHq.out _ _) | (with_reducible exact CDq.out _ _))))
      refine wpQuiet_nil ?_
      intro _ hw'
      obtain ⟨⟨dq, osq⟩, hw''⟩ := hw'
      subst hw''
      have B6 := Lib.hid (below_regrown W4 dq osq)
      generalize grow (redrawn W4 dq) osq = W6 at *
      clear ka0 ka1 ka2 ka3 ka4 ka5 ka6 ka7 kd0 kd1 kd2 kd3 kd4 kd5 kd6 kd7 CWq CHq CDq
      go_wp2_with fail
      go_ret
      exact ⟨ret_bool (by simp), BW.out.trans ((B4.out.trans (B6.out.mono B4.out.size)).mono HL.out)⟩
    · by_cases h21 : c.kind = 21
      · skip
        have e9 : backC c = { c with A := c.A.reverse } := by unfold backC; rw [if_neg (by omega), if_pos (by omega)]
        have hc1 : W0.cell? ⟨w2.heap.size, 1, none⟩ = some (.slice v.a.A v.a.n v.a.c) := box_cell HO.out.c rfl
        have CB := Lib.hid (back_any v.a c.A W0 (HV.out.a.below B0.out) SLM.out.1)
        have t1 : (c.kind == 1) = false := by simp; omega
        have t2 : (c.kind == 2) = false := by simp; omega
        have t3 : (c.kind == 3) = false := by simp; omega
        have t4 : (c.kind == 4) = false := by simp; omega
        have t17 : (c.kind == 17) = false := by simp; omega
        have t21 : (c.kind == 21) = true := by simp; omega
        clear h1 h17 h21
        go_wp2_with fail
        refine CB.out.mono ?_
        rintro e w3 ⟨⟨yA, rfl, hyA⟩, b3⟩
        have o3 := HO.out.below b3
        have x1 : w3.cell? ⟨w2.heap.size + 1, 1, none⟩ = some (.slice v.a.A v.a.n v.a.c) := box_cell o3.d rfl
        have f1 := box_free o3.d 1
        have hlt : w2.heap.size + 1 < W0.heap.size := (Array.getElem?_eq_some_iff.1 HO.out.d).1
        have HO4 : Hid (OB w2.heap.size v { v with a := yA } c.kind c.K (w3.setCell ⟨w2.heap.size + 1, 1, none⟩ (.slice yA.A yA.n yA.c))) := Lib.hid (o3.put 1 _ rfl)
        have B4 : Hid (Below w2.heap.size w2 (w3.setCell ⟨w2.heap.size + 1, 1, none⟩ (.slice yA.A yA.n yA.c))) := Lib.hid (low_put (B0.out.trans (b3.mono B0.out.size)) (by omega) 1 _)
        have HD4 : Hid (ConIn (w3.setCell ⟨w2.heap.size + 1, 1, none⟩ (.slice yA.A yA.n yA.c)) { v with a := yA } (backC c)) := Lib.hid (by
          have hv4 := HV.out.below B4.out
          rw [e9]
          exact ⟨(hyA.put hlt 1 _).cells' (by rw [List.length_reverse]; exact SLM.out.1), hv4.b, hv4.c, hv4.d, hv4.e, hv4.r⟩)
        obtain ⟨vd, hvd⟩ : ∃ vd, vd = ({ v with a := yA } : ConV) := ⟨_, rfl⟩
        rw [← hvd] at HO4 HD4
        clear hyA b3 o3 hlt e9 CB HO B0 hc1 hvd
        go_upto_region 21 with fail
        generalize (w3.setCell ⟨w2.heap.size + 1, 1, none⟩ (.slice yA.A yA.n yA.c)) = W4 at *
        clear x1 f1

        have CWq := Lib.hid (bo_regrown (w := W4) (fun W hW => CW.out W (B4.out.trans (hW.mono B4.out.size))))
        have CHq := Lib.hid (bo_regrown (w := W4) (fun W hW => CH.out W (B4.out.trans (hW.mono B4.out.size))))
        have CDq := Lib.hid (bo_regrown (w := W4) (fun W hW => CD.out W vd (B4.out.trans (hW.mono B4.out.size)) (HD4.out.below hW)))
        obtain ⟨⟨a0, a1, a2, a3, a4, a5, a6, a7⟩, d0, d1, d2, d3, d4, d5, d6, d7⟩ := HFIN.out W4 vd B4.out HO4.out HD4.out W4 (Below.refl _ _)
        have ka0 := cell_regrown a0
        have ka1 := cell_regrown a1
        have ka2 := cell_regrown a2
        have ka3 := cell_regrown a3
        have ka4 := cell_regrown a4
        have ka5 := cell_regrown a5
        have ka6 := cell_regrown a6
        have ka7 := cell_regrown a7
        have kd0 := cell_regrown d0
        have kd1 := cell_regrown d1
        have kd2 := cell_regrown d2
        have kd3 := cell_regrown d3
        have kd4 := cell_regrown d4
        have kd5 := cell_regrown d5
        have kd6 := cell_regrown d6
        have kd7 := cell_regrown d7
        clear a0 a1 a2 a3 a4 a5 a6 a7 d0 d1 d2 d3 d4 d5 d6 d7 CW CH CD HFIN
        refine wp_region_quiet_below (by kernel_rfl) (by kernel_rfl) ?_
        repeat (first | go_big_quiet_step (first | (go_at_call 10; with_reducible exact CWq.out _ _) | (go_at_call 8; first | (with_reducible exact CHq.out _ _) | (with_reducible exact CDq.out _ _))) | quiet_step (first | (go_at_call 10; with_reducible exact CWq.out _ _) | (go_at_call 8; first | (with_reducible exact CHq.out _ _) | (with_reducible exact CDq.out _ _))))
        refine wpQuiet_nil ?_
        intro _ hw'
        obtain ⟨⟨dq, osq⟩, hw''⟩ := hw'
        subst hw''
        have B6 := Lib.hid (below_regrown W4 dq osq)
        generalize grow (redrawn W4 dq) osq = W6 at *
        clear ka0 ka1 ka2 ka3 ka4 ka5 ka6 ka7 kd0 kd1 kd2 kd3 kd4 kd5 kd6 kd7 CWq CHq CDq
        go_wp2_with fail
        go_ret
        exact ⟨ret_bool (by simp), BW.out.trans ((B4.out.trans (B6.out.mono B4.out.size)).mono HL.out)⟩
      · by_cases h12 : c.kind = 12
        · skip
          have e9 : backC c = { c with A := c.A.reverse, B := c.B.reverse } := by unfold backC; rw [if_neg (by omega), if_neg (by omega), if_pos h12]
          have hlt : w2.heap.size + 1 < W0.heap.size := (Array.getElem?_eq_some_iff.1 HO.out.d).1
          have HLT := Lib.hid hlt
          have HE9 := Lib.hid e9
          have CA : Hid (∀ W, Below W0.heap.size W0 W → Calls Tryd.prog 11 #[.slice v.a.A v.a.n v.a.c] W fun e w' => (∃ y : Sl, e = .returned (.slice y.A y.n y.c) ∧ Row3 w' W.heap.size y c.A.reverse) ∧ Below W.heap.size W w') := Lib.hid (fun W hW => back_any v.a c.A W ((HV.out.a.below B0.out).below hW) SLM.out.1)
          have CB : Hid (∀ W, Below W0.heap.size W0 W → Calls Tryd.prog 11 #[.slice v.b.A v.b.n v.b.c] W fun e w' => (∃ y : Sl, e = .returned (.slice y.A y.n y.c) ∧ Row3 w' W.heap.size y c.B.reverse) ∧ Below W.heap.size W w') := Lib.hid (fun W hW => back_any v.b c.B W ((HV.out.b.below B0.out).below hW) SLM.out.2.1)
          have HSS : Hid (∀ W, Below W0.heap.size W0 W → W.cell? ⟨w2.heap.size, 1, none⟩ = some (.slice v.a.A v.a.n v.a.c) ∧ W.cell? ⟨w2.heap.size + 1, 1, none⟩ = some (.slice v.a.A v.a.n v.a.c) ∧ W.frozen? ⟨w2.heap.size + 1, 1, none⟩ = false ∧ W.cell? ⟨w2.heap.size, 2, none⟩ = some (.slice v.b.A v.b.n v.b.c) ∧ W.cell? ⟨w2.heap.size + 1, 2, none⟩ = some (.slice v.b.A v.b.n v.b.c) ∧ W.frozen? ⟨w2.heap.size + 1, 2, none⟩ = false) := Lib.hid (fun W hW => by
            have o := HO.out.below hW
            exact ⟨box_cell o.c rfl, box_cell o.d rfl, box_free o.d _, box_cell o.c rfl, box_cell o.d rfl, box_free o.d _⟩)
          have t1 : (c.kind == 1) = false := by simp; omega
          have t2 : (c.kind == 2) = false := by simp; omega
          have t3 : (c.kind == 3) = false := by simp; omega
          have t4 : (c.kind == 4) = false := by simp; omega
          have t17 : (c.kind == 17) = false := by simp; omega
          have t21 : (c.kind == 21) = false := by simp; omega
          have t12 : (c.kind == 12) = true := by simp; omega
          clear h1 h17 h21 h12
          clear hlt e9
          go_upto_region 15 with fail
          have hB : Below W0.heap.size W0 W0.drew := (Below.refl _ _).drew
          obtain ⟨p1, q1, r1, p2, q2, r2⟩ := HSS.out _ hB
          clear hc0
          go_region_held3 (fun W => W.cell? ⟨w2.heap.size, 1, none⟩ = some (.slice v.a.A v.a.n v.a.c) ∧ W.cell? ⟨w2.heap.size, 2, none⟩ = some (.slice v.b.A v.b.n v.b.c)) (first | exact ⟨p1, p2⟩ | assumption | exact ⟨(cell_next _ _ _ _ _).trans (by assumption), (cell_next _ _ _ _ _).trans (by assumption)⟩ | exact ⟨(cell_next _ _ _ _ _).trans ((cell_next _ _ _ _ _).trans (by assumption)), (cell_next _ _ _ _ _).trans ((cell_next _ _ _ _ _).trans (by assumption))⟩ | exact ⟨(cell_next _ _ _ _ _).trans ((cell_next _ _ _ _ _).trans ((cell_next _ _ _ _ _).trans (by assumption))), (cell_next _ _ _ _ _).trans ((cell_next _ _ _ _ _).trans ((cell_next _ _ _ _ _).trans (by assumption)))⟩)
            (first
              | (with_reducible refine (CA.out _ hB).mono ?_; rintro e wA ⟨⟨yA, rfl, hyA⟩, bA⟩; have HA := Lib.hid (hyA.base hB.size); (try have HB := Lib.hid (HB.out.step bA)); have hB := hB.trans (bA.mono hB.size); obtain ⟨p1, q1, r1, p2, q2, r2⟩ := HSS.out _ hB; clear hyA bA)
              | (with_reducible refine (CB.out _ hB).mono ?_; rintro e wB ⟨⟨yB, rfl, hyB⟩, bB⟩; have HB := Lib.hid (hyB.base hB.size); (try have HA := Lib.hid (HA.out.step bB)); have hB := hB.trans (bB.mono hB.size); obtain ⟨p1, q1, r1, p2, q2, r2⟩ := HSS.out _ hB; clear hyB bB)
              | fail)
          all_goals
              have hBL := B0.out.trans (hB.mono B0.out.size)
              have hOB := (⟨(hB.block _ (by have := HLT.out; omega)).trans HO.out.c, (hB.block _ HLT.out).trans HO.out.d⟩ : OB w2.heap.size v v c.kind c.K _)
              have HBF := Lib.hid (low_put (low_put hBL (g := w2.heap.size + 1) (by omega) 1 (.slice yA.A yA.n yA.c)) (g := w2.heap.size + 1) (by omega) 2 (.slice yB.A yB.n yB.c))
              have HOF := Lib.hid (OB.put (vd' := { v with a := yA, b := yB }) (OB.put (vd' := { v with a := yA }) hOB 1 (.slice yA.A yA.n yA.c) rfl) 2 (.slice yB.A yB.n yB.c) rfl)
              have HDF : Hid (ConIn _ { v with a := yA, b := yB } (backC c)) := Lib.hid (by
                have hv4 := HV.out.below HBF.out
                rw [HE9.out]
                exact ⟨((HA.out.put HLT.out 1 (.slice yA.A yA.n yA.c)).put HLT.out 2 (.slice yB.A yB.n yB.c)).cells' (by rw [List.length_reverse]; exact SLM.out.1), ((HB.out.put HLT.out 1 (.slice yA.A yA.n yA.c)).put HLT.out 2 (.slice yB.A yB.n yB.c)).cells' (by rw [List.length_reverse]; exact SLM.out.2.1), hv4.c, hv4.d, hv4.e, hv4.r⟩)
              clear p1  q1  r1  p2  q2  r2 hB hBL hOB HSS CA CB
              go_upto_region 21 with fail
              have CWq := Lib.hid (bo_regrown (fun W hW => CW.out W (HBF.out.trans (hW.mono HBF.out.size))))
              have CHq := Lib.hid (bo_regrown (fun W hW => CH.out W (HBF.out.trans (hW.mono HBF.out.size))))
              have CDq := Lib.hid (bo_regrown (fun W hW => CD.out W _ (HBF.out.trans (hW.mono HBF.out.size)) (HDF.out.below hW)))
              obtain ⟨⟨a0, a1, a2, a3, a4, a5, a6, a7⟩, d0, d1, d2, d3, d4, d5, d6, d7⟩ := HFIN.out _ _ HBF.out HOF.out HDF.out _ (Below.refl _ _)
              have ka0 := cell_regrown a0
              have ka1 := cell_regrown a1
              have ka2 := cell_regrown a2
              have ka3 := cell_regrown a3
              have ka4 := cell_regrown a4
              have ka5 := cell_regrown a5
              have ka6 := cell_regrown a6
              have ka7 := cell_regrown a7
              have kd0 := cell_regrown d0
              have kd1 := cell_regrown d1
              have kd2 := cell_regrown d2
              have kd3 := cell_regrown d3
              have kd4 := cell_regrown d4
              have kd5 := cell_regrown d5
              have kd6 := cell_regrown d6
              have kd7 := cell_regrown d7
              clear a0 a1 a2 a3 a4 a5 a6 a7 d0 d1 d2 d3 d4 d5 d6 d7 CW CH CD HFIN
              refine wp_region_quiet_below (by kernel_rfl) (by kernel_rfl) ?_
              repeat (first | go_big_quiet_step (first | (go_at_call 10; with_reducible exact CWq.out _ _) | (go_at_call 8; first | (with_reducible exact CHq.out _ _) | (with_reducible exact CDq.out _ _))) | quiet_step (first | (go_at_call 10; with_reducible exact CWq.out _ _) | (go_at_call 8; first | (with_reducible exact CHq.out _ _) | (with_reducible exact CDq.out _ _))))
              refine wpQuiet_nil ?_
              intro W6 hw'
              have B6 := Lib.hid (low_regrown HBF.out hw')
              clear ka0 ka1 ka2 ka3 ka4 ka5 ka6 ka7 kd0 kd1 kd2 kd3 kd4 kd5 kd6 kd7 CWq CHq CDq hw'
              go_wp2_with fail
              go_ret
              exact ⟨ret_bool (by simp), BW.out.trans (B6.out.mono HL.out)⟩
        · by_cases h19 : c.kind = 19
          · skip
            have e9 : backC c = { c with A := c.A.reverse, C := c.C.reverse, D := c.D.reverse } := by unfold backC; rw [if_neg (by omega), if_neg (by omega), if_neg (by omega), if_pos h19]
            have hlt : w2.heap.size + 1 < W0.heap.size := (Array.getElem?_eq_some_iff.1 HO.out.d).1
            have HLT := Lib.hid hlt
            have HE9 := Lib.hid e9
            have CA : Hid (∀ W, Below W0.heap.size W0 W → Calls Tryd.prog 11 #[.slice v.a.A v.a.n v.a.c] W fun e w' => (∃ y : Sl, e = .returned (.slice y.A y.n y.c) ∧ Row3 w' W.heap.size y c.A.reverse) ∧ Below W.heap.size W w') := Lib.hid (fun W hW => back_any v.a c.A W ((HV.out.a.below B0.out).below hW) SLM.out.1)
            have CC : Hid (∀ W, Below W0.heap.size W0 W → Calls Tryd.prog 11 #[.slice v.c.A v.c.n v.c.c] W fun e w' => (∃ y : Sl, e = .returned (.slice y.A y.n y.c) ∧ Row3 w' W.heap.size y c.C.reverse) ∧ Below W.heap.size W w') := Lib.hid (fun W hW => back_any v.c c.C W ((HV.out.c.below B0.out).below hW) SLM.out.2.2.1)
            have CD : Hid (∀ W, Below W0.heap.size W0 W → Calls Tryd.prog 11 #[.slice v.d.A v.d.n v.d.c] W fun e w' => (∃ y : Sl, e = .returned (.slice y.A y.n y.c) ∧ Row3 w' W.heap.size y c.D.reverse) ∧ Below W.heap.size W w') := Lib.hid (fun W hW => back_any v.d c.D W ((HV.out.d.below B0.out).below hW) SLM.out.2.2.2.1)
            have HSS : Hid (∀ W, Below W0.heap.size W0 W → W.cell? ⟨w2.heap.size, 1, none⟩ = some (.slice v.a.A v.a.n v.a.c) ∧ W.cell? ⟨w2.heap.size + 1, 1, none⟩ = some (.slice v.a.A v.a.n v.a.c) ∧ W.frozen? ⟨w2.heap.size + 1, 1, none⟩ = false ∧ W.cell? ⟨w2.heap.size, 3, none⟩ = some (.slice v.c.A v.c.n v.c.c) ∧ W.cell? ⟨w2.heap.size + 1, 3, none⟩ = some (.slice v.c.A v.c.n v.c.c) ∧ W.frozen? ⟨w2.heap.size + 1, 3, none⟩ = false ∧ W.cell? ⟨w2.heap.size, 4, none⟩ = some (.slice v.d.A v.d.n v.d.c) ∧ W.cell? ⟨w2.heap.size + 1, 4, none⟩ = some (.slice v.d.A v.d.n v.d.c) ∧ W.frozen? ⟨w2.heap.size + 1, 4, none⟩ = false) := Lib.hid (fun W hW => by
              have o := HO.out.below hW
              exact ⟨box_cell o.c rfl, box_cell o.d rfl, box_free o.d _, box_cell o.c rfl, box_cell o.d rfl, box_free o.d _, box_cell o.c rfl, box_cell o.d rfl, box_free o.d _⟩)
            have t1 : (c.kind == 1) = false := by simp; omega
            have t2 : (c.kind == 2) = false := by simp; omega
            have t3 : (c.kind == 3) = false := by simp; omega
            have t4 : (c.kind == 4) = false := by simp; omega
            have t17 : (c.kind == 17) = false := by simp; omega
            have t21 : (c.kind == 21) = false := by simp; omega
            have t12 : (c.kind == 12) = false := by simp; omega
            have t19 : (c.kind == 19) = true := by simp; omega
            clear h1 h17 h21 h12 h19
            clear hlt e9
            go_upto_region 17 with fail
            have hB : Below W0.heap.size W0 W0.drew := (Below.refl _ _).drew
            obtain ⟨p1, q1, r1, p3, q3, r3, p4, q4, r4⟩ := HSS.out _ hB
            clear hc0
            go_region_held3 (fun W => W.cell? ⟨w2.heap.size, 1, none⟩ = some (.slice v.a.A v.a.n v.a.c) ∧ W.cell? ⟨w2.heap.size, 3, none⟩ = some (.slice v.c.A v.c.n v.c.c) ∧ W.cell? ⟨w2.heap.size, 4, none⟩ = some (.slice v.d.A v.d.n v.d.c)) (first | exact ⟨p1, p3, p4⟩ | assumption | exact ⟨(cell_next _ _ _ _ _).trans (by assumption), (cell_next _ _ _ _ _).trans (by assumption), (cell_next _ _ _ _ _).trans (by assumption)⟩ | exact ⟨(cell_next _ _ _ _ _).trans ((cell_next _ _ _ _ _).trans (by assumption)), (cell_next _ _ _ _ _).trans ((cell_next _ _ _ _ _).trans (by assumption)), (cell_next _ _ _ _ _).trans ((cell_next _ _ _ _ _).trans (by assumption))⟩ | exact ⟨(cell_next _ _ _ _ _).trans ((cell_next _ _ _ _ _).trans ((cell_next _ _ _ _ _).trans (by assumption))), (cell_next _ _ _ _ _).trans ((cell_next _ _ _ _ _).trans ((cell_next _ _ _ _ _).trans (by assumption))), (cell_next _ _ _ _ _).trans ((cell_next _ _ _ _ _).trans ((cell_next _ _ _ _ _).trans (by assumption)))⟩)
              (first
                | (with_reducible refine (CA.out _ hB).mono ?_; rintro e wA ⟨⟨yA, rfl, hyA⟩, bA⟩; have HA := Lib.hid (hyA.base hB.size); (try have HC := Lib.hid (HC.out.step bA)); (try have HD := Lib.hid (HD.out.step bA)); have hB := hB.trans (bA.mono hB.size); obtain ⟨p1, q1, r1, p3, q3, r3, p4, q4, r4⟩ := HSS.out _ hB; clear hyA bA)
                | (with_reducible refine (CC.out _ hB).mono ?_; rintro e wC ⟨⟨yC, rfl, hyC⟩, bC⟩; have HC := Lib.hid (hyC.base hB.size); (try have HA := Lib.hid (HA.out.step bC)); (try have HD := Lib.hid (HD.out.step bC)); have hB := hB.trans (bC.mono hB.size); obtain ⟨p1, q1, r1, p3, q3, r3, p4, q4, r4⟩ := HSS.out _ hB; clear hyC bC)
                | (with_reducible refine (CD.out _ hB).mono ?_; rintro e wD ⟨⟨yD, rfl, hyD⟩, bD⟩; have HD := Lib.hid (hyD.base hB.size); (try have HA := Lib.hid (HA.out.step bD)); (try have HC := Lib.hid (HC.out.step bD)); have hB := hB.trans (bD.mono hB.size); obtain ⟨p1, q1, r1, p3, q3, r3, p4, q4, r4⟩ := HSS.out _ hB; clear hyD bD)
                | fail)
            all_goals
                have hBL := B0.out.trans (hB.mono B0.out.size)
                have hOB := (⟨(hB.block _ (by have := HLT.out; omega)).trans HO.out.c, (hB.block _ HLT.out).trans HO.out.d⟩ : OB w2.heap.size v v c.kind c.K _)
                have HBF := Lib.hid (low_put (low_put (low_put hBL (g := w2.heap.size + 1) (by omega) 1 (.slice yA.A yA.n yA.c)) (g := w2.heap.size + 1) (by omega) 3 (.slice yC.A yC.n yC.c)) (g := w2.heap.size + 1) (by omega) 4 (.slice yD.A yD.n yD.c))
                have HOF := Lib.hid (OB.put (vd' := { v with a := yA, c := yC, d := yD }) (OB.put (vd' := { v with a := yA, c := yC }) (OB.put (vd' := { v with a := yA }) hOB 1 (.slice yA.A yA.n yA.c) rfl) 3 (.slice yC.A yC.n yC.c) rfl) 4 (.slice yD.A yD.n yD.c) rfl)
                have HDF : Hid (ConIn _ { v with a := yA, c := yC, d := yD } (backC c)) := Lib.hid (by
                  have hv4 := HV.out.below HBF.out
                  rw [HE9.out]
                  exact ⟨(((HA.out.put HLT.out 1 (.slice yA.A yA.n yA.c)).put HLT.out 3 (.slice yC.A yC.n yC.c)).put HLT.out 4 (.slice yD.A yD.n yD.c)).cells' (by rw [List.length_reverse]; exact SLM.out.1), hv4.b, (((HC.out.put HLT.out 1 (.slice yA.A yA.n yA.c)).put HLT.out 3 (.slice yC.A yC.n yC.c)).put HLT.out 4 (.slice yD.A yD.n yD.c)).cells' (by rw [List.length_reverse]; exact SLM.out.2.2.1), (((HD.out.put HLT.out 1 (.slice yA.A yA.n yA.c)).put HLT.out 3 (.slice yC.A yC.n yC.c)).put HLT.out 4 (.slice yD.A yD.n yD.c)).cells' (by rw [List.length_reverse]; exact SLM.out.2.2.2.1), hv4.e, hv4.r⟩)
                clear p1  q1  r1  p3  q3  r3  p4  q4  r4 hB hBL hOB HSS CA CC CD
                go_upto_region 21 with fail
                have CWq := Lib.hid (bo_regrown (fun W hW => CW.out W (HBF.out.trans (hW.mono HBF.out.size))))
                have CHq := Lib.hid (bo_regrown (fun W hW => CH.out W (HBF.out.trans (hW.mono HBF.out.size))))
                have CDq := Lib.hid (bo_regrown (fun W hW => CD.out W _ (HBF.out.trans (hW.mono HBF.out.size)) (HDF.out.below hW)))
                obtain ⟨⟨a0, a1, a2, a3, a4, a5, a6, a7⟩, d0, d1, d2, d3, d4, d5, d6, d7⟩ := HFIN.out _ _ HBF.out HOF.out HDF.out _ (Below.refl _ _)
                have ka0 := cell_regrown a0
                have ka1 := cell_regrown a1
                have ka2 := cell_regrown a2
                have ka3 := cell_regrown a3
                have ka4 := cell_regrown a4
                have ka5 := cell_regrown a5
                have ka6 := cell_regrown a6
                have ka7 := cell_regrown a7
                have kd0 := cell_regrown d0
                have kd1 := cell_regrown d1
                have kd2 := cell_regrown d2
                have kd3 := cell_regrown d3
                have kd4 := cell_regrown d4
                have kd5 := cell_regrown d5
                have kd6 := cell_regrown d6
                have kd7 := cell_regrown d7
                clear a0 a1 a2 a3 a4 a5 a6 a7 d0 d1 d2 d3 d4 d5 d6 d7 CW CH CD HFIN
                refine wp_region_quiet_below (by kernel_rfl) (by kernel_rfl) ?_
                repeat (first | go_big_quiet_step (first | (go_at_call 10; with_reducible exact CWq.out _ _) | (go_at_call 8; first | (with_reducible exact CHq.out _ _) | (with_reducible exact CDq.out _ _))) | quiet_step (first | (go_at_call 10; with_reducible exact CWq.out _ _) | (go_at_call 8; first | (with_reducible exact CHq.out _ _) | (with_reducible exact CDq.out _ _))))
                refine wpQuiet_nil ?_
                intro W6 hw'
                have B6 := Lib.hid (low_regrown HBF.out hw')
                clear ka0 ka1 ka2 ka3 ka4 ka5 ka6 ka7 kd0 kd1 kd2 kd3 kd4 kd5 kd6 kd7 CWq CHq CDq hw'
                go_wp2_with fail
                go_ret
                exact ⟨ret_bool (by simp), BW.out.trans (B6.out.mono HL.out)⟩
          · by_cases h18 : c.kind = 18
            · skip
              have e9 : backC c = { c with rows := c.rows.reverse } := by unfold backC; rw [if_neg (by omega), if_neg (by omega), if_neg (by omega), if_neg (by omega), if_pos h18]
              have hc7 : W0.cell? ⟨w2.heap.size, 7, none⟩ = some (.slice v.r.A v.r.n v.r.c) := box_cell HO.out.c rfl
              have CB := Lib.hid (clone_rows v.r c.rows w2 W0 HV.out.r B0.out SLM.out.2.2.2.2.2.1)
              have t1 : (c.kind == 1) = false := by simp; omega
              have t2 : (c.kind == 2) = false := by simp; omega
              have t3 : (c.kind == 3) = false := by simp; omega
              have t4 : (c.kind == 4) = false := by simp; omega
              have t17 : (c.kind == 17) = false := by simp; omega
              have t21 : (c.kind == 21) = false := by simp; omega
              have t12 : (c.kind == 12) = false := by simp; omega
              have t19 : (c.kind == 19) = false := by simp; omega
              have t18 : (c.kind == 18) = true := by simp; omega
              clear h1 h17 h21 h12 h19 h18
              go_wp2_with fail
              refine CB.out.mono ?_
              rintro e w3 ⟨⟨yR, rfl, hyR⟩, b3⟩
              have o3 := HO.out.below b3
              have x1 : w3.cell? ⟨w2.heap.size + 1, 7, none⟩ = some (.slice v.r.A v.r.n v.r.c) := box_cell o3.d rfl
              have f1 := box_free o3.d 7
              have hlt : w2.heap.size + 1 < W0.heap.size := (Array.getElem?_eq_some_iff.1 HO.out.d).1
              have HLT := Lib.hid hlt
              have HO4 : Hid (OB w2.heap.size v { v with r := yR } c.kind c.K (w3.setCell ⟨w2.heap.size + 1, 7, none⟩ (.slice yR.A yR.n yR.c))) := Lib.hid (o3.put 7 _ rfl)
              have B4 : Hid (Below w2.heap.size w2 (w3.setCell ⟨w2.heap.size + 1, 7, none⟩ (.slice yR.A yR.n yR.c))) := Lib.hid (low_put (B0.out.trans (b3.mono B0.out.size)) (by omega) 7 _)
              have HR4 : Hid (RowsO w2 (w3.setCell ⟨w2.heap.size + 1, 7, none⟩ (.slice yR.A yR.n yR.c)) W0.heap.size yR c.rows) := Lib.hid (by
                obtain ⟨xs, h1, h2, h3⟩ := hyR
                exact ⟨xs, h1, own_keep' h2 fun g hg => Below.heap_setCell _ _ _ _ (by have := (own_lt' h2 hg).1; simp only; omega), h3⟩)
              obtain ⟨vd, hvd⟩ : ∃ vd, vd = ({ v with r := yR } : ConV) := ⟨_, rfl⟩
              have HVD := Lib.hid hvd
              rw [← hvd] at HO4
              clear hyR b3 o3 hlt CB HO B0 hc7 hvd
              go_upto_region 20 with fail
              generalize (w3.setCell ⟨w2.heap.size + 1, 7, none⟩ (.slice yR.A yR.n yR.c)) = W3 at *
              clear x1 f1
              have x7 : W3.cell? ⟨w2.heap.size + 1, 7, none⟩ = some (.slice yR.A yR.n yR.c) := box_cell HO4.out.d (by rw [HVD.out]; rfl)
              have CT := Lib.hid (turn_rows yR c.rows W0.heap.size w2 W3 HR4.out SLM.out.2.2.2.2.2.1)
              go_wp2_with fail
              refine CT.out.mono ?_
              rintro e W4 ⟨rfl, ⟨xs, h1, h2, h3⟩, b5⟩
              have HO5 : Hid (OB w2.heap.size v vd c.kind c.K W4) := Lib.hid ⟨(b5.block _ (by have := HLT.out; omega)).trans HO4.out.c, (b5.block _ HLT.out).trans HO4.out.d⟩
              have B5 : Hid (Below w2.heap.size w2 W4) := Lib.hid (B4.out.trans (b5.mono (by have := HLT.out; omega)))
              have HD5 : Hid (ConIn W4 vd (backC c)) := Lib.hid (by
                have hv4 := HV.out.below B5.out
                rw [e9, HVD.out]
                exact ⟨hv4.a, hv4.b, hv4.c, hv4.d, hv4.e, rows_turned h1 h2 h3 B5.out SLM.out.2.2.2.2.2.1⟩)
              clear h1 h2 h3 b5 HO4 B4 HR4 CT x7 e9

              go_upto_region 21 with fail
              have CWq := Lib.hid (bo_regrown (w := W4) (fun W hW => CW.out W (B5.out.trans (hW.mono B5.out.size))))
              have CHq := Lib.hid (bo_regrown (w := W4) (fun W hW => CH.out W (B5.out.trans (hW.mono B5.out.size))))
              have CDq := Lib.hid (bo_regrown (w := W4) (fun W hW => CD.out W vd (B5.out.trans (hW.mono B5.out.size)) (HD5.out.below hW)))
              obtain ⟨⟨a0, a1, a2, a3, a4, a5, a6, a7⟩, d0, d1, d2, d3, d4, d5, d6, d7⟩ := HFIN.out W4 vd B5.out HO5.out HD5.out W4 (Below.refl _ _)
              have ka0 := cell_regrown a0
              have ka1 := cell_regrown a1
              have ka2 := cell_regrown a2
              have ka3 := cell_regrown a3
              have ka4 := cell_regrown a4
              have ka5 := cell_regrown a5
              have ka6 := cell_regrown a6
              have ka7 := cell_regrown a7
              have kd0 := cell_regrown d0
              have kd1 := cell_regrown d1
              have kd2 := cell_regrown d2
              have kd3 := cell_regrown d3
              have kd4 := cell_regrown d4
              have kd5 := cell_regrown d5
              have kd6 := cell_regrown d6
              have kd7 := cell_regrown d7
              clear a0 a1 a2 a3 a4 a5 a6 a7 d0 d1 d2 d3 d4 d5 d6 d7 CW CH CD HFIN
              refine wp_region_quiet_below (by kernel_rfl) (by kernel_rfl) ?_
              repeat (first | go_big_quiet_step (first | (go_at_call 10; with_reducible exact CWq.out _ _) | (go_at_call 8; first | (with_reducible exact CHq.out _ _) | (with_reducible exact CDq.out _ _))) | quiet_step (first | (go_at_call 10; with_reducible exact CWq.out _ _) | (go_at_call 8; first | (with_reducible exact CHq.out _ _) | (with_reducible exact CDq.out _ _))))
              refine wpQuiet_nil ?_
              intro _ hw'
              obtain ⟨⟨dq, osq⟩, hw''⟩ := hw'
              subst hw''
              have B6 := Lib.hid (below_regrown W4 dq osq)
              generalize grow (redrawn W4 dq) osq = W6 at *
              clear ka0 ka1 ka2 ka3 ka4 ka5 ka6 ka7 kd0 kd1 kd2 kd3 kd4 kd5 kd6 kd7 CWq CHq CDq
              go_wp2_with fail
              go_ret
              exact ⟨ret_bool (by simp), BW.out.trans ((B5.out.trans (B6.out.mono B5.out.size)).mono HL.out)⟩
            · skip
              have HD : Hid (ConIn W0 v (backC c)) := Lib.hid (by
                have e : backC c = c := by unfold backC; rw [if_neg (by omega), if_neg (by omega), if_neg (by omega), if_neg (by omega), if_neg (by omega)]
                rw [e]
                exact HV.out.below B0.out)
              have t1 : (c.kind == 1) = false := by simp; omega
              have t2 : (c.kind == 2) = false := by simp; omega
              have t3 : (c.kind == 3) = false := by simp; omega
              have t4 : (c.kind == 4) = false := by simp; omega
              have t17 : (c.kind == 17) = false := by simp; omega
              have t21 : (c.kind == 21) = false := by simp; omega
              have t12 : (c.kind == 12) = false := by simp; omega
              have t19 : (c.kind == 19) = false := by simp; omega
              have t18 : (c.kind == 18) = false := by simp; omega
              clear h1 h17 h21 h12 h19 h18

              go_upto_region 21 with fail
              have CWq := Lib.hid (bo_regrown (w := W0) (fun W hW => CW.out W (B0.out.trans (hW.mono B0.out.size))))
              have CHq := Lib.hid (bo_regrown (w := W0) (fun W hW => CH.out W (B0.out.trans (hW.mono B0.out.size))))
              have CDq := Lib.hid (bo_regrown (w := W0) (fun W hW => CD.out W v (B0.out.trans (hW.mono B0.out.size)) (HD.out.below hW)))
              obtain ⟨⟨a0, a1, a2, a3, a4, a5, a6, a7⟩, d0, d1, d2, d3, d4, d5, d6, d7⟩ := HFIN.out W0 v B0.out HO.out HD.out W0 (Below.refl _ _)
              have ka0 := cell_regrown a0
              have ka1 := cell_regrown a1
              have ka2 := cell_regrown a2
              have ka3 := cell_regrown a3
              have ka4 := cell_regrown a4
              have ka5 := cell_regrown a5
              have ka6 := cell_regrown a6
              have ka7 := cell_regrown a7
              have kd0 := cell_regrown d0
              have kd1 := cell_regrown d1
              have kd2 := cell_regrown d2
              have kd3 := cell_regrown d3
              have kd4 := cell_regrown d4
              have kd5 := cell_regrown d5
              have kd6 := cell_regrown d6
              have kd7 := cell_regrown d7
              clear a0 a1 a2 a3 a4 a5 a6 a7 d0 d1 d2 d3 d4 d5 d6 d7 CW CH CD HFIN hc0
              refine wp_region_quiet_below (by kernel_rfl) (by kernel_rfl) ?_
              repeat (first | go_big_quiet_step (first | (go_at_call 10; with_reducible exact CWq.out _ _) | (go_at_call 8; first | (with_reducible exact CHq.out _ _) | (with_reducible exact CDq.out _ _))) | quiet_step (first | (go_at_call 10; with_reducible exact CWq.out _ _) | (go_at_call 8; first | (with_reducible exact CHq.out _ _) | (with_reducible exact CDq.out _ _))))
              refine wpQuiet_nil ?_
              intro _ hw'
              obtain ⟨⟨dq, osq⟩, hw''⟩ := hw'
              subst hw''
              have B6 := Lib.hid (below_regrown W0 dq osq)
              generalize grow (redrawn W0 dq) osq = W6 at *
              clear ka0 ka1 ka2 ka3 ka4 ka5 ka6 ka7 kd0 kd1 kd2 kd3 kd4 kd5 kd6 kd7 CWq CHq CDq
              go_wp2_with fail
              go_ret
              exact ⟨ret_bool (by simp), BW.out.trans ((B0.out.trans (B6.out.mono B0.out.size)).mono HL.out)⟩
end Go.Proofs.YtppiemgdjkehkaaDoor
