/- The law ExtKeeps walked. Made by tools/genlay.py. -/
import Derived.Test.YtkhmocbfkpbpfaaGreatDoorExtw
import Derived.Test.YtkhmocbfkpbpfaaGreatDoorExth
import Derived.Test.YtkhmocbfkpbpfaaGreatDoorLay1
namespace Go.Proofs.YtkhmocbfkpbpfaaGreatDoor
open Go.RowKit Go.Sort

set_option maxHeartbeats 4000000 in
set_option maxRecDepth 100000 in
theorem extKeeps_walk (zA zB zC x : Sl) (la lb lc : List Int) (DD : List (List Int)) (k0 n K ch : Int) (w : World) (ha : IsNs .u8 w zA la) (hb : IsNs .u8 w zB lb) (hc : IsNs .i8 w zC lc) (ba : ∀ v ∈ la, 0 ≤ v ∧ v ≤ 255) (bb : ∀ v ∈ lb, 0 ≤ v ∧ v ≤ 255) (bc : ∀ v ∈ lc, -128 ≤ v ∧ v ≤ 127) (hn : 0 ≤ n ∧ n ≤ 255) (hK : -32768 ≤ K ∧ K ≤ 32767) (hch : 0 ≤ ch ∧ ch ≤ 255)
    (hx : IsRowsN w x DD) (hE : EntIn w) (hT : TabZ w) :
    Calls Tryz.prog 5 #[caV zA zB zC k0 K ch x, .int .u8 n] w fun e w' => e = .returned (.bool true) ∧ Below w.heap.size w w' := by
  obtain ⟨kd, hkd⟩ : ∃ kd, kd = extK n := ⟨_, rfl⟩
  have CK := Lib.hid (fun W => extKind_any n W hn)
  rw [← hkd] at CK
  have hk3 : 8 ≤ kd ∧ kd ≤ 10 := hkd ▸ extK_in n hn
  obtain ⟨wa, hwa⟩ : ∃ wa, w.alloc (.cells (caC zA zB zC k0 K ch x) 29) = wa := ⟨_, rfl⟩
  have hna : wa.heap[w.heap.size]? = some (.cells (caC zA zB zC k0 K ch x) 29 (0, 0)) := hwa ▸ heap_new w _
  have ba' : Below w.heap.size w wa := hwa ▸ below1 w _
  have hr4 := make_right la lb lc (kd - 1) K ch 5 ba bb (by omega) hch.1 (by omega)
  obtain ⟨c, hcE⟩ : ∃ c, c = makeE la lb lc (kd - 1) K ch 5 := ⟨_, rfl⟩
  have hck : c.kind = kd := by
    have : (makeE la lb lc (kd - 1) K ch 5).kind = 1 + (kd - 1).tmod 23 := makeE_kind la lb lc (kd - 1) K ch 5 (by omega)
    rw [hcE, this, Int.tmod_eq_of_lt (by omega) (by omega)]
    omega
  have HSL := Lib.hid (makeE_slim la lb lc (kd - 1) K ch 5)
  rw [← hcE] at hr4 HSL
  have hr256 := right_more hr4 (show (5 : Int) ≤ 256 by omega)
  have hN0 := some_of (n := 5) hr4
  obtain ⟨N, hN⟩ : ∃ N, N = c.A.length + c.B.length := ⟨_, rfl⟩
  rw [← hN] at hN0
  have CM : Hid (∀ W, Below wa.heap.size wa W → Calls Tryz.prog 15 #[.agg #[.int .u8 k0, .slice zA.A zA.n zA.c, .slice zB.A zB.n zB.c, .slice zC.A zC.n zC.c, .int .i16 K, .int .u8 ch, .slice x.A x.n x.c], .int .i64 kd, .int .i64 6] W fun e w' => (∃ (v : ConV) (y : Sl) (xs : List Sl), e = .returned (.tuple #[v.val c.kind c.K, .slice y.A y.n y.c]) ∧ ConIn w' v c ∧ MkR (W.heap.size + 1 + 1 + 1 + 1 + 1) w' v c ∧ RowsO W.heap.size w' y xs (caseD DD 6 N)) ∧ Below W.heap.size W w') := Lib.hid (fun W hW => by
    have b := ba'.trans (hW.mono ba'.size)
    have h := make10_full zA zB zC x la lb lc DD k0 K ch kd 6 W (ha.below b) (hb.below b) (hc.below b) ba bb bc (by omega) hK hch (hx.below b) (by omega)
    rw [← hcE, ← hN] at h
    exact h)
  have HN0 := Lib.hid hN0
  have HNN := Lib.hid hN
  have hN128 : N ≤ 128 := hN0.2
  have HR5 : Hid (ConR 5 c) := Lib.hid (con_r (n := 5) hr4)
  have HRT := Lib.hid hr256
  have HKD : Hid (8 ≤ c.kind ∧ c.kind ≤ 10) := Lib.hid (by rw [hck]; exact hk3)
  have HB0 := Lib.hid ba'
  have HE := Lib.hid hE
  have HT := Lib.hid hT
  have HNA := Lib.hid hna
  have HLT : Hid (w.heap.size < wa.heap.size) := Lib.hid (Array.getElem?_eq_some_iff.1 hna).1
  have HS : Hid (∀ W, Below wa.heap.size wa W → Below wa.heap.size wa W ∧ W.cell? ⟨w.heap.size, 0, none⟩ = some (.int .u8 k0) ∧ W.cell? ⟨w.heap.size, 1, none⟩ = some (.slice zA.A zA.n zA.c) ∧ W.cell? ⟨w.heap.size, 2, none⟩ = some (.slice zB.A zB.n zB.c) ∧ W.cell? ⟨w.heap.size, 3, none⟩ = some (.slice zC.A zC.n zC.c) ∧ W.cell? ⟨w.heap.size, 4, none⟩ = some (.int .i16 K) ∧ W.cell? ⟨w.heap.size, 5, none⟩ = some (.int .u8 ch) ∧ W.cell? ⟨w.heap.size, 6, none⟩ = some (.slice x.A x.n x.c)) := Lib.hid (fun W hW => by
    have h := (hW.block _ (Array.getElem?_eq_some_iff.1 HNA.out).1).trans HNA.out
    exact ⟨hW, box_cell h rfl, box_cell h rfl, box_cell h rfl, box_cell h rfl, box_cell h rfl, box_cell h rfl, box_cell h rfl⟩)
  clear hkd hk3 hna ba' ha hb hc ba bb bc hn hK hch hx hE hT hcE hck hr4 hr256 hN hN0
  go_enter Tryz.func5, Tryz.ntmps5
  go_upto_region 1 with fail
  clear hwa
  go_cut [5, 6] (fun p l wx => ∃ (g : Nat) (v : ConV) (y : Sl), p = .pointer (some ⟨g, 0, none⟩) ∧ l = .slice y.A y.n y.c ∧ Hid (wx.heap[g]? = some (.cells (v.cells c.kind c.K) 32 (0, 0))) ∧ Hid (ConIn wx v c) ∧ Hid (IsRows wx y (caseD DD 6 N)) ∧ Hid (Below wa.heap.size wa wx))
  case first =>
    have hS := HS.out wa.drew (Below.refl _ _).drew
    go_region_held3 (fun W => Below wa.heap.size wa W ∧ W.cell? ⟨w.heap.size, 0, none⟩ = some (.int .u8 k0) ∧ W.cell? ⟨w.heap.size, 1, none⟩ = some (.slice zA.A zA.n zA.c) ∧ W.cell? ⟨w.heap.size, 2, none⟩ = some (.slice zB.A zB.n zB.c) ∧ W.cell? ⟨w.heap.size, 3, none⟩ = some (.slice zC.A zC.n zC.c) ∧ W.cell? ⟨w.heap.size, 4, none⟩ = some (.int .i16 K) ∧ W.cell? ⟨w.heap.size, 5, none⟩ = some (.int .u8 ch) ∧ W.cell? ⟨w.heap.size, 6, none⟩ = some (.slice x.A x.n x.c)) (first | with_reducible assumption | with_reducible exact hS9 | with_reducible exact HS.out _ (hS.1.alloc hS.1.size _) | with_reducible exact HS.out _ (((Below.refl wa.heap.size wa).alloc (Nat.le_refl _) _).drew))
      (first
        | (go_at_call 16; refine (CK.out _).mono ?_; rintro e w' ⟨rfl, rfl⟩)
        | (go_at_call 15; have hS := HS.out _ (((Below.refl wa.heap.size wa).alloc (Nat.le_refl _) (.cells #[.int .i64 0, .slice none 0 0, .slice none 0 0, .slice none 0 0, .slice none 0 0, .slice none 0 0, .int .i64 0, .slice none 0 0] 32)).drew); with_reducible refine (CM.out _ hS.1).mono ?_; rintro e w2 ⟨⟨v, y, xs, rfl, hv, hm, hy⟩, b2⟩; have HM := Lib.hid hm; have HY := Lib.hid hy; have B2 := Lib.hid (hS.1.trans (b2.mono hS.1.size)); have hz : w2.heap[wa.heap.size]? = some (.cells zeroC 32 (0, 0)) := (b2.block wa.heap.size (by simp)).trans (zero_drew wa); have e0 := box_cell hz (j := 0) rfl; have e1 := box_cell hz (j := 1) rfl; have e2 := box_cell hz (j := 2) rfl; have e3 := box_cell hz (j := 3) rfl; have e4 := box_cell hz (j := 4) rfl; have e5 := box_cell hz (j := 5) rfl; have e6 := box_cell hz (j := 6) rfl; have e7 := box_cell hz (j := 7) rfl; have f0 := box_free hz 0; have f1 := box_free hz 1; have f2 := box_free hz 2; have f3 := box_free hz 3; have f4 := box_free hz 4; have f5 := box_free hz 5; have f6 := box_free hz 6; have f7 := box_free hz 7; obtain ⟨hQ, kQ⟩ := out8 hz (.int .i64 c.kind) (.slice v.a.A v.a.n v.a.c) (.slice v.b.A v.b.n v.b.c) (.slice v.c.A v.c.n v.c.c) (.slice v.d.A v.d.n v.d.c) (.slice v.e.A v.e.n v.e.c) (.int .i64 c.K) (.slice v.r.A v.r.n v.r.c); have HQ := Lib.hid hQ; have HKQ := Lib.hid kQ; have hS := HS.out _ B2.out; have hS9 := HS.out _ (B2.out.trans (kQ.below B2.out.size (Nat.le_refl _))))
        | (go_at_call 15; with_reducible refine (CM.out _ hS.1).mono ?_; rintro e w2 ⟨⟨v, y, xs, rfl, hv, hm, hy⟩, b2⟩; have HM := Lib.hid hm; have HY := Lib.hid hy; have B2 := Lib.hid (hS.1.trans (b2.mono hS.1.size)); have hS := HS.out _ B2.out))
    focus
        (obtain ⟨w3, hw3⟩ : ∃ w3, w2.alloc (.cells #[.int .i64 c.kind, .slice v.a.A v.a.n v.a.c, .slice v.b.A v.b.n v.b.c, .slice v.c.A v.c.n v.c.c, .slice v.d.A v.d.n v.d.c, .slice v.e.A v.e.n v.e.c, .int .i64 c.K, .slice v.r.A v.r.n v.r.c] 32) = w3 := ⟨_, rfl⟩
         rw [hw3]
         have b23 : Below w2.heap.size w2 w3 := hw3 ▸ below1 w2 _
         have HC3 : Hid (w3.heap[w2.heap.size]? = some (.cells (v.cells c.kind c.K) 32 (0, 0))) := Lib.hid (hw3 ▸ heap_new w2 _)
         have HCN := Lib.hid ((HM.out.kp (Kp.of_below (G := w.heap.size) b23) (by have h := HLT.out; show w.heap.size < wa.heap.size + 1 + 1 + 1 + 1 + 1; omega)).con HSL.out.1 HSL.out.2.1 HSL.out.2.2.1 HSL.out.2.2.2.1 HSL.out.2.2.2.2.1 HSL.out.2.2.2.2.2.1 HSL.out.2.2.2.2.2.2)
         have HRW := Lib.hid ((HY.out.below b23).rows (by rw [caseD_len]; have := HN0.out; omega) (fun r hr => by have := (caseD_dom DD 6 N r hr).2; omega))
         have B3 := Lib.hid (B2.out.trans (b23.mono B2.out.size))
         obtain ⟨g, hg⟩ : ∃ g, g = w2.heap.size := ⟨_, rfl⟩
         rw [← hg] at HC3
         rw [← hg]
         clear hg hw3 b23 HM HY B2 HSL hS)
    rotate_left
    all_goals first
      | (obtain ⟨w3, hw3⟩ : ∃ w3, ((((((((w2.setCell ⟨wa.heap.size, 0, none⟩ (.int .i64 c.kind)).setCell ⟨wa.heap.size, 1, none⟩ (.slice v.a.A v.a.n v.a.c)).setCell ⟨wa.heap.size, 2, none⟩ (.slice v.b.A v.b.n v.b.c)).setCell ⟨wa.heap.size, 3, none⟩ (.slice v.c.A v.c.n v.c.c)).setCell ⟨wa.heap.size, 4, none⟩ (.slice v.d.A v.d.n v.d.c)).setCell ⟨wa.heap.size, 5, none⟩ (.slice v.e.A v.e.n v.e.c)).setCell ⟨wa.heap.size, 6, none⟩ (.int .i64 c.K)).setCell ⟨wa.heap.size, 7, none⟩ (.slice v.r.A v.r.n v.r.c)) = w3 := ⟨_, rfl⟩
         rw [hw3]
         have hQ3 := HQ.out
         have kQ3 := HKQ.out
         rw [hw3] at hQ3 kQ3
         have HC3 : Hid (w3.heap[wa.heap.size]? = some (.cells (v.cells c.kind c.K) 32 (0, 0))) := Lib.hid hQ3
         have HCN := Lib.hid ((HM.out.kp kQ3 (by simp; omega)).con HSL.out.1 HSL.out.2.1 HSL.out.2.2.1 HSL.out.2.2.2.1 HSL.out.2.2.2.2.1 HSL.out.2.2.2.2.2.1 HSL.out.2.2.2.2.2.2)
         have HRW := Lib.hid ((RowsO.kp HY.out kQ3 (by simp)).rows (by rw [caseD_len]; have := HN0.out; omega) (fun r hr => by have := (caseD_dom DD 6 N r hr).2; omega))
         have B3 := Lib.hid (B2.out.trans (kQ3.below B2.out.size (Nat.le_refl _)))
         obtain ⟨g, hg⟩ : ∃ g, g = wa.heap.size := ⟨_, rfl⟩
         rw [← hg] at HC3
         rw [← hg]
         clear hg hw3 hQ3 kQ3 HQ HKQ HM HY B2 HSL hS hS9 e0 e1 e2 e3 e4 e5 e6 e7 f0 f1 f2 f3 f4 f5 f6 f7)
      | skip
    all_goals
      first
        | go_wp2_with fail
        | skip
      go_meet
      case rel => exact ⟨g, v, y, rfl, rfl, HC3, HCN, HRW, B3⟩
  case rest =>
    obtain ⟨g, v, y, rfl, rfl, HC3, HCN, HRW, B3⟩ := hcut
    obtain ⟨w3, rfl⟩ : ∃ w3, w3 = wc := ⟨_, rfl⟩
    clear CM CK HS HNA HLT
    have HD := Lib.hid (caseD_dom DD 6 N)
    have HDL := Lib.hid (caseD_ofL DD 6 N)
    have HDN := Lib.hid (caseD_len DD 6 N)
    obtain ⟨D, hDD⟩ : ∃ D, D = caseD DD 6 N := ⟨_, rfl⟩
    rw [← hDD] at HRW HD HDL HDN
    clear hDD
    have HKN : Hid (overP 4000 1 D = false → extE c D = none → solsE c D 4000 = []) := Lib.hid (fun ho h => extKeep_none HKD.out HRT.out (by rw [HDN.out]; exact HNN.out) HD.out ho h)
    have HKS : Hid (overP 4000 1 D = false → ∀ E, extE c D = some E → E.length = N ∧ (∀ i, i < N → ∀ v ∈ E.getD i [], v ∈ D.getD i []) ∧ (∀ r ∈ solsE c D 4000, r.length = N ∧ ∀ i, i < N → r.getD i 0 ∈ E.getD i []) ∧ extE c E = some E ∧ ∀ l ∈ E, l.length ≤ 36) := Lib.hid (fun ho E h => by
      have h := extKeep_some (m := 4000) HKD.out HRT.out (by rw [HDN.out]; exact HNN.out) HD.out ho h
      rwa [HDN.out] at h)
    have HSO : Hid ((solsE c D 4000).length ≤ 1000000 ∧ ∀ r ∈ solsE c D 4000, r.length ≤ 1000) := Lib.hid ⟨Nat.le_trans (List.length_filter_le _ _) (prod_len (by omega)), fun r hr => by
      have := prod_row (List.mem_filter.1 hr).1
      rw [this, HDN.out]; have := HN0.out; omega⟩
    have BW := Lib.hid (HB0.out.trans (B3.out.mono HB0.out.size))
    have HS : Hid (∀ W, Below w3.heap.size w3 W → Below w3.heap.size w3 W ∧ W.cell? ⟨g, 0, none⟩ = some (.int .i64 c.kind) ∧ W.cell? ⟨g, 1, none⟩ = some (.slice v.a.A v.a.n v.a.c) ∧ W.cell? ⟨g, 2, none⟩ = some (.slice v.b.A v.b.n v.b.c) ∧ W.cell? ⟨g, 3, none⟩ = some (.slice v.c.A v.c.n v.c.c) ∧ W.cell? ⟨g, 4, none⟩ = some (.slice v.d.A v.d.n v.d.c) ∧ W.cell? ⟨g, 5, none⟩ = some (.slice v.e.A v.e.n v.e.c) ∧ W.cell? ⟨g, 6, none⟩ = some (.int .i64 c.K) ∧ W.cell? ⟨g, 7, none⟩ = some (.slice v.r.A v.r.n v.r.c)) := Lib.hid (fun W hW => by
      have h := (hW.block _ (Array.getElem?_eq_some_iff.1 HC3.out).1).trans HC3.out
      exact ⟨hW, box_cell h rfl, box_cell h rfl, box_cell h rfl, box_cell h rfl, box_cell h rfl, box_cell h rfl, box_cell h rfl, box_cell h rfl⟩)
    have CD : Hid (∀ W, Below w3.heap.size w3 W → Calls Tryz.prog 18 #[.slice y.A y.n y.c] W fun e w' => (∃ (y' : Sl), e = .returned (.slice y'.A y'.n y'.c) ∧ DomsIn w' y' D) ∧ Below W.heap.size W w') := Lib.hid (fun W hW => by
      refine (doms_any y D W (HRW.out.below hW) (by rw [HDN.out]; have := HN0.out; omega) (fun r hr => by have := (HD.out r hr).2; omega)).mono ?_
      rintro e w' ⟨⟨y', ds, rfl, h⟩, b⟩
      rw [HDL.out] at h
      exact ⟨⟨y', rfl, h.within (by rw [HDN.out]; have := HN0.out; omega)⟩, b⟩)
    have CF0 := Lib.hid (fun W y' (hW : Below w3.heap.size w3 W) (hd : DomsIn W y' D) => ext_any v c y' D W (HE.out.below (BW.out.trans (hW.mono BW.out.size))) (HT.out.below (BW.out.trans (hW.mono BW.out.size))) (HCN.out.below hW) hd (fun l hl => by have := (HD.out l hl).2; omega))
    have CR0 := Lib.hid (sols_any v c y D 4000 5 w3 HCN.out HRW.out HR5.out (by omega) (by rw [HDN.out]; exact HNN.out) (fun l hl => by have := (HD.out l hl).2; omega) (fun l hl z hz => domL_in (HD.out l hl).1 z hz))
    have CW := Lib.hid (fun W (hW : Below w3.heap.size w3 W) => extWakes_any W (HE.out.below (BW.out.trans (hW.mono BW.out.size))) (HT.out.below (BW.out.trans (hW.mono BW.out.size))))
    have CF9 := Lib.hid (fun W y' E (hW : Below w3.heap.size w3 W) (hd : DomsIn W y' E) (hl : ∀ l ∈ E, l.length ≤ 100000) => ext_any v c y' E W (HE.out.below (BW.out.trans (hW.mono BW.out.size))) (HT.out.below (BW.out.trans (hW.mono BW.out.size))) (HCN.out.below hW) hd hl)
    have HYN : Hid (y.n = N) := Lib.hid (by rw [HRW.out.len, HDN.out])
    obtain ⟨fw, hfw⟩ : ∃ fw, fw = !overP 4000 1 D := ⟨_, rfl⟩
    rw [← hfw] at CR0
    have HFW : Hid (fw = true → overP 4000 1 D = false) := Lib.hid (fun h => by rw [hfw] at h; simpa using h)
    obtain ⟨ME, hME⟩ : ∃ ME, ME = extE c D := ⟨_, rfl⟩
    obtain ⟨SO, hSO⟩ : ∃ SO, SO = solsE c D 4000 := ⟨_, rfl⟩
    rw [← hSO] at CR0 HKN HKS HSO
    rw [← hME] at CF0 HKN HKS
    obtain ⟨bo, hbo⟩ : ∃ bo, bo = ME.isSome := ⟨_, rfl⟩
    obtain ⟨R, hR⟩ : ∃ R, R = ME.getD [] := ⟨_, rfl⟩
    rw [← hbo, ← hR] at CF0
    have HN : Hid (fw = true → bo = false → SO = []) := Lib.hid (fun ho h => HKN.out (HFW.out ho) (by
      rw [hbo] at h
      simpa using h))
    have HYS : Hid (fw = true → bo = true → R.length = N ∧ (∀ i, i < N → ∀ v ∈ R.getD i [], v ∈ D.getD i []) ∧ (∀ r ∈ SO, r.length = N ∧ ∀ i, i < N → r.getD i 0 ∈ R.getD i []) ∧ extE c R = some R ∧ ∀ l ∈ R, l.length ≤ 36) := Lib.hid (fun ho h => by
      rw [hbo] at h
      obtain ⟨E, hE9⟩ := Option.isSome_iff_exists.1 h
      have hr : R = E := by rw [hR, hE9]; rfl
      have hr9 := hr ▸ hE9
      exact HKS.out (HFW.out ho) R hr9)
    clear hME hSO HC3 hfw HFW hbo hR HKN HKS
    have hS0 := HS.out w3 (Below.refl _ _)
    obtain ⟨-, c0, c1, c2, c3, c4, c5, c6, c7⟩ := hS0
    go_wp2_with fail
    refine CR0.out.mono ?_
    rintro e w4 ⟨⟨ys, xs4, rfl, h4⟩, b4⟩
    have HSR := Lib.hid (h4.rows HSO.out.1 (fun r hr => by have := HSO.out.2 r hr; omega))
    have B4 : Hid (Below w3.heap.size w3 w4) := Lib.hid b4
    clear CR0 h4 b4 c0 c1 c2 c3 c4 c5 c6 c7
    have HS4 : Hid (∀ W, Below w4.heap.size w4 W → Below w4.heap.size w4 W ∧ W.cell? ⟨g, 0, none⟩ = some (.int .i64 c.kind) ∧ W.cell? ⟨g, 1, none⟩ = some (.slice v.a.A v.a.n v.a.c) ∧ W.cell? ⟨g, 2, none⟩ = some (.slice v.b.A v.b.n v.b.c) ∧ W.cell? ⟨g, 3, none⟩ = some (.slice v.c.A v.c.n v.c.c) ∧ W.cell? ⟨g, 4, none⟩ = some (.slice v.d.A v.d.n v.d.c) ∧ W.cell? ⟨g, 5, none⟩ = some (.slice v.e.A v.e.n v.e.c) ∧ W.cell? ⟨g, 6, none⟩ = some (.int .i64 c.K) ∧ W.cell? ⟨g, 7, none⟩ = some (.slice v.r.A v.r.n v.r.c)) := Lib.hid (fun W hW => ⟨hW, (HS.out W (B4.out.trans (hW.mono B4.out.size))).2⟩)
    have CD4 := Lib.hid (fun W (hW : Below w4.heap.size w4 W) => CD.out W (B4.out.trans (hW.mono B4.out.size)))
    have CF4 := Lib.hid (fun W y' (hW : Below w4.heap.size w4 W) (hd : DomsIn W y' D) => CF0.out W y' (B4.out.trans (hW.mono B4.out.size)) hd)
    clear CD CF0
    go_upto_region 3 with fail
    have hS := HS4.out w4.drew (Below.refl _ _).drew
    go_region_held3 (fun W => Below w4.heap.size w4 W ∧ W.cell? ⟨g, 0, none⟩ = some (.int .i64 c.kind) ∧ W.cell? ⟨g, 1, none⟩ = some (.slice v.a.A v.a.n v.a.c) ∧ W.cell? ⟨g, 2, none⟩ = some (.slice v.b.A v.b.n v.b.c) ∧ W.cell? ⟨g, 3, none⟩ = some (.slice v.c.A v.c.n v.c.c) ∧ W.cell? ⟨g, 4, none⟩ = some (.slice v.d.A v.d.n v.d.c) ∧ W.cell? ⟨g, 5, none⟩ = some (.slice v.e.A v.e.n v.e.c) ∧ W.cell? ⟨g, 6, none⟩ = some (.int .i64 c.K) ∧ W.cell? ⟨g, 7, none⟩ = some (.slice v.r.A v.r.n v.r.c)) (first | with_reducible assumption)
      (first
        | (go_at_call 18; with_reducible refine (CD4.out _ hS.1).mono ?_; rintro e w6 ⟨⟨y6, rfl, h6⟩, b6⟩; have HD6 := Lib.hid h6; have hS := HS4.out _ (hS.1.trans (b6.mono hS.1.size)))
        | (go_at_call 17; with_reducible refine (CF4.out _ y6 hS.1 HD6.out).mono ?_; rintro e w7 ⟨⟨y7, rfl, h7⟩, b7⟩; have HD7 := Lib.hid h7; have B47 := Lib.hid (hS.1.trans (b7.mono hS.1.size)); have hS := HS4.out _ B47.out))
    clear CD4 CF4 hS HS4
    have B7 := Lib.hid (B4.out.trans (B47.out.mono B4.out.size))
    have HSR7 := Lib.hid (HSR.out.below B47.out)
    have hysn : ys.n ≤ 1000000 := by rw [HSR.out.len]; exact HSO.out.1
    clear HSR B47
    cases fw with
    | false =>
      clear HN HYS CF9 HKD HRW HD HDN HDL HSR7
      go_wp2_with fail
      refine (CW.out w7 B7.out).mono ?_
      rintro e w9 ⟨rfl, b9⟩
      have BE := Lib.hid (BW.out.trans ((B7.out.trans (b9.mono B7.out.size)).mono BW.out.size))
      clear b9 CW
      go_wp2_with fail
      go_ret
      exact ⟨rfl, BE.out⟩
    | true =>
    cases hbo : bo with
    | false =>
      rw [hbo] at HN
      have hse : ys.n = 0 := by rw [HSR7.out.len, HN.out rfl rfl]; rfl
      rw [hse]
      clear HYS CF9 HKD HRW HD HDN HDL HSR7
      go_wp2_with fail
      refine (CW.out w7 B7.out).mono ?_
      rintro e w9 ⟨rfl, b9⟩
      have BE := Lib.hid (BW.out.trans ((B7.out.trans (b9.mono B7.out.size)).mono BW.out.size))
      clear b9 CW
      go_wp2_with fail
      go_ret
      exact ⟨rfl, BE.out⟩
    | true =>
      rw [hbo] at HYS
      obtain ⟨r1, r2, r3, r4, r5⟩ := HYS.out rfl rfl
      have HR1 := Lib.hid r1
      have HR2 := Lib.hid r2
      have HR3 := Lib.hid r3
      have HR4 := Lib.hid r4
      have HR5' := Lib.hid r5
      have hy7 : y7.n = N := by rw [HD7.out.len, r1]
      have hy3 := HYN.out
      obtain ⟨A7, n7, k7⟩ := y7
      obtain rfl : N = n7 := hy7.symm
      obtain ⟨g7, o7, -, ex7, -⟩ := HD7.out.at_ 0 (by show 0 < N; have := HN0.out; omega)
      have ex7 : A7 = some ⟨g7, o7, none⟩ := ex7
      subst ex7
      rw [hy3]
      clear HYS HN r1 r2 r3 r4 r5 HKD hbo
      go_wp2_with fail
      go_loopw [59] (fun i wr => ∃ k : Nat, i = .int .i64 (k : Nat) ∧ k ≤ N ∧ Hid (Below w7.heap.size w7 wr)) (fun i _ => N - (intOf i).toNat)
      case atStart => exact ⟨0, rfl, by omega, Lib.hid (Below.refl _ _)⟩
      case round =>
        obtain ⟨k, rfl, hk, HB⟩ := hrel
        by_cases hlt : k < N
        · have B8 := Lib.hid (B7.out.trans (HB.out.mono B7.out.size))
          obtain ⟨ad, u, ex, qx, ux⟩ := rows_at (HRW.out.below B8.out) k (by rw [hy3]; exact hlt)
          obtain ⟨d, q0, q1, q2, hD⟩ := (HD7.out.below HB.out).at2 k hlt
          rw [ex]
          have BE := Lib.hid (BW.out.trans (B8.out.mono BW.out.size))
          have HIN : Hid (∀ v ∈ R.getD k [], v ∈ D.getD k []) := Lib.hid (HR2.out k hlt)
          generalize R.getD k [] = L at hD HIN
          generalize D.getD k [] = M at ux HIN
          have CL := Lib.hid (list_dom d.val L wr hD (HT.out.below BE.out))
          have HLL : Hid (L.length ≤ 2000064) := Lib.hid hD.len_lim
          have HUX := Lib.hid ux
          clear hD ux
          go_wp2_with fail
          refine CL.out.mono ?_
          rintro e w2 ⟨v2, rfl, h2, b2⟩
          obtain ⟨Y2, k2, rfl⟩ := slice_row h2
          have HY2 : Hid (IsInts w2 ⟨Y2, L.length, k2⟩ L) := Lib.hid (ints_own (y := ⟨Y2, L.length, k2⟩) h2 (by have := HLL.out; omega))
          have HU2 := Lib.hid (HUX.out.below b2)
          have HB2 := Lib.hid (HB.out.trans (b2.mono HB.out.size))
          have CC : Hid (∀ z ∈ L, Calls Tryz.prog 27 #[.slice u.A u.n u.c, .int .i64 z] w2 fun e w' => e = .returned (.bool true) ∧ w2 = w') := Lib.hid (fun z hz => by
            have h := contains_ints u M z w2 HU2.out
            rw [show M.any (· == z) = true from List.any_eq_true.2 ⟨z, HIN.out z hz, by simp⟩] at h
            exact h)
          clear h2 b2 CL HUX HIN q0 q1 q2 qx ex B8 BE HB
          obtain ⟨ln, hln⟩ : ∃ ln, ln = L.length := ⟨_, rfl⟩
          rw [← hln] at HY2 ⊢
          have HLN := Lib.hid hln
          have hl9 : ln ≤ 2000064 := by rw [hln]; exact HLL.out
          clear hln HU2
          go_wp2_with fail
          go_loopw [70] (fun j wr' => ∃ m : Nat, j = .int .i64 (m : Nat) ∧ m ≤ ln ∧ Hid (w2 = wr')) (fun j _ => ln - (intOf j).toNat)
          case atStart => exact ⟨0, rfl, by omega, Lib.hid rfl⟩
          case round =>
            obtain ⟨m, rfl, hm, HW⟩ := hrel
            obtain rfl := HW.out
            by_cases hlm : m < ln
            · obtain ⟨ad2, rfl, -, hc2⟩ := HY2.out.lies (by show 0 < ln; omega)
              have hcm : w2.cell? (ad2.add m) = some (.int .i64 (L.getD m 0)) := hc2 m hlm
              have CZ := Lib.hid (CC.out (L.getD m 0) (getD_mem L m (by rw [← HLN.out]; exact hlm)))
              generalize L.getD m 0 = z at hcm CZ
              clear hc2
              go_wp2_with fail
              refine CZ.out.mono ?_
              rintro e w8 ⟨rfl, rfl⟩
              clear CZ
              go_wp2_with fail
              go_roundw
              case rel => exact ⟨m + 1, by go_num, by omega, Lib.hid (by first | rfl | trivial)⟩
              case measure => simp [intOf]; omega
            · obtain rfl : m = ln := by omega
              clear CC HY2
              go_wp2_with fail
              go_roundw
              case rel => exact ⟨k + 1, by go_num, by omega, HB2⟩
              case measure => simp [intOf]; omega
        · obtain rfl : N = k := by omega
          clear HRW
          obtain ⟨As, ns, ks⟩ := ys
          have hysn : ns ≤ 1000000 := hysn
          go_wp2_with fail
          go_loopw [82] (fun i wq => ∃ k : Nat, i = .int .i64 (k : Nat) ∧ k ≤ ns ∧ Hid (Below w7.heap.size w7 wq)) (fun i _ => ns - (intOf i).toNat)
          case atStart => exact ⟨0, rfl, by omega, HB⟩
          case round =>
            clear HB
            obtain ⟨k, rfl, hk, HB⟩ := hrel
            obtain ⟨w8, rfl⟩ : ∃ w8, w8 = wr := ⟨_, rfl⟩
            by_cases hlt : k < ns
            · obtain ⟨ad, z, ex, qx, zx⟩ := rows_at (HSR7.out.below HB.out) k hlt
              have ex : As = some ad := ex
              subst ex
              have hks : k < SO.length := by rw [← HSR7.out.len]; exact hlt
              obtain ⟨hr1, hr2⟩ := HR3.out _ (getD_memL SO k hks)
              have HRB : Hid (∀ i, i < N → -1000000 ≤ (SO.getD k []).getD i 0 ∧ (SO.getD k []).getD i 0 ≤ 1000000) := Lib.hid (fun i hi => domL_in (HD.out _ (getD_memL D i (by rw [HDN.out]; exact hi))).1 _ (HR2.out i hi _ (hr2 i hi)))
              have HRI := Lib.hid hr2
              generalize SO.getD k [] = r at zx hr1 HRB HRI
              have hzn : z.n = N := by rw [zx.len, hr1]
              obtain ⟨Az, nz, kz⟩ := z
              obtain rfl : N = nz := hzn.symm
              have HZX := Lib.hid zx
              clear hr1 hr2 zx hks
              go_wp2_with fail
              clear qx
              go_loopw [88] (fun j wq => ∃ m : Nat, j = .int .i64 (m : Nat) ∧ m ≤ N ∧ Hid (Below w8.heap.size w8 wq)) (fun j _ => N - (intOf j).toNat)
              case atStart => exact ⟨0, rfl, by omega, Lib.hid (Below.refl _ _)⟩
              case round =>
                obtain ⟨m, rfl, hm, HC⟩ := hrel
                obtain ⟨w9, rfl⟩ : ∃ w9, w9 = wr := ⟨_, rfl⟩
                by_cases hlm : m < N
                · obtain ⟨ad2, e2, -, hc2⟩ := (HZX.out.below HC.out).lies (by show 0 < N; omega)
                  have e2 : Az = some ad2 := e2
                  subst e2
                  have hcm : w9.cell? (ad2.add m) = some (.int .i64 (r.getD m 0)) := hc2 m hlm
                  obtain ⟨d, q0, q1, q2, hD⟩ := (HD7.out.below (HB.out.trans (HC.out.mono HB.out.size))).at2 m hlm
                  have CH := Lib.hid (has_yes hD (HRI.out m hlm) (HRB.out m hlm))
                  generalize r.getD m 0 = z0 at hcm CH
                  clear hc2 hD
                  go_wp2_with fail
                  refine CH.out.mono ?_
                  rintro e wA ⟨rfl, bA⟩
                  have HA := Lib.hid (HC.out.trans (bA.mono HC.out.size))
                  clear CH bA q0 q1 q2 hcm
                  go_wp2_with fail
                  go_roundw
                  case rel => exact ⟨m + 1, by go_num, by omega, HA⟩
                  case measure => simp [intOf]; omega
                · obtain rfl : N = m := by omega
                  have HA := Lib.hid (HB.out.trans (HC.out.mono HB.out.size))
                  clear HZX HRB HRI HC HB
                  go_wp2_with fail
                  go_roundw
                  case rel => exact ⟨k + 1, by go_num, by omega, HA⟩
                  case measure => simp [intOf]; omega
            · obtain rfl : k = ns := by omega
              have B8 := Lib.hid (B7.out.trans (HB.out.mono B7.out.size))
              obtain ⟨-, c0, c1, c2, c3, c4, c5, c6, c7⟩ := HS.out w8 B8.out
              have CF := CF9.out w8 _ R B8.out (HD7.out.below HB.out) (fun l hl => by have := HR5'.out l hl; omega)
              rw [HR4.out] at CF
              have CF := Lib.hid CF
              have HD8 := Lib.hid (HD7.out.below HB.out)
              have HRL : Hid (R.length ≤ 1000) := Lib.hid (by have := HR1.out; omega)
              clear HR1 HR2 HR3 HR4 HSO HD HDN HDL HS CF9 HB HSR7
              go_wp2_with fail
              refine CF.out.mono ?_
              rintro e wA ⟨⟨yA, rfl, hA⟩, bA⟩
              have HDA : Hid (DomsIn wA yA R) := Lib.hid hA
              have HDB := Lib.hid (HD8.out.below bA)
              have BA := Lib.hid (B8.out.trans (bA.mono B8.out.size))
              clear CF hA bA c0 c1 c2 c3 c4 c5 c6 c7 HD8
              go_wp2_with fail
              refine (CW.out wA BA.out).mono ?_
              rintro e wB ⟨rfl, bB⟩
              have HDA2 := Lib.hid (HDA.out.below bB)
              have HDB2 := Lib.hid (HDB.out.below bB)
              have BB := Lib.hid (BA.out.trans (bB.mono BA.out.size))
              have BE := Lib.hid (BW.out.trans (BB.out.mono BW.out.size))
              have CL1 := Lib.hid (lists_any yA R wB HDA2.out (HT.out.below BE.out) HRL.out)
              clear bB CW HDA HDB
              go_wp2_with fail
              refine CL1.out.mono ?_
              rintro e wC ⟨⟨yC, xsC, rfl, hC⟩, bC⟩
              have BC := Lib.hid (BE.out.trans (bC.mono BE.out.size))
              have HRC := Lib.hid (hC.rows (by have := HRL.out; omega) (fun r hr => by have := HR5'.out r hr; omega))
              have CL2 := lists_any _ R wC (HDB2.out.below bC) (HT.out.below BC.out) HRL.out
              have CL2 := Lib.hid CL2
              clear CL1 hC bC
              go_wp2_with fail
              refine CL2.out.mono ?_
              rintro e wD ⟨⟨yD, xsD, rfl, hD⟩, bD⟩
              have BD := Lib.hid (BC.out.trans (bD.mono BC.out.size))
              have HRD := Lib.hid (hD.rows (by have := HRL.out; omega) (fun r hr => by have := HR5'.out r hr; omega))
              have CQ := same2_any yC yD _ _ wD (HRC.out.below bD) HRD.out
              rw [beq_self_eq_true] at CQ
              have CQ := Lib.hid CQ
              clear CL2 hD bD
              go_wp2_with fail
              refine CQ.out.mono ?_
              rintro e wE ⟨rfl, bE⟩
              have BF := Lib.hid (BD.out.trans (bE.mono BD.out.size))
              clear bE CQ
              go_wp2_with fail
              go_ret
              exact ⟨rfl, BF.out⟩
end Go.Proofs.YtkhmocbfkpbpfaaGreatDoor
