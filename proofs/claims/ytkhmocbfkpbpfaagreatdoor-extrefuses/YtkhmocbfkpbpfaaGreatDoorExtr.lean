/- Arguments that come in: a constraint of any form. -/
import Derived.Test.YtkhmocbfkpbpfaaGreatDoorExtw
import Derived.Test.YtkhmocbfkpbpfaaGreatDoorLay1
import Derived.Deep.CutBlock
import Derived.Test.YtkhmocbfkpbpfaaGreatDoorSmopen
import Derived.ChangeArms
namespace Go.Proofs.YtkhmocbfkpbpfaaGreatDoor
open Go.RowKit Go.Sort

theorem short12_any (A : Option Addr) (n c : Nat) (h : n ≤ c) (hb : n ≤ 9223372036854775807) (w : World) :
    Calls Tryz.prog 23 #[.slice A n c] w fun e w' => e = .returned (.slice A (cut5 n) c) ∧ w = w' := by
  have hs := cut5_run A n c (cut5 n) (by have := cut5_le n; omega)
  have hm := cut5_min n
  have hm' : min (5 : Int) ((n : Nat) : Int) = (cut5 n : Nat) := by rw [← hm]; omega
  go_enter Tryz.func23, Tryz.ntmps23
  go_wp2_with fail
  go_ret
  exact ⟨by first | rfl | simp [hm, hm'], rfl⟩
set_option maxHeartbeats 8000000 in
set_option maxRecDepth 100000 in
theorem extRefuses_walk (zA zB zC x : Sl) (la lb lc : List Int) (DD : List (List Int)) (k0 n K ch kd kk : Int) (sa sb sc sd se sr : Sl) (A B C D E : List Int) (w : World) (ha : IsNs .u8 w zA la) (hb : IsNs .u8 w zB lb) (hc : IsNs .i8 w zC lc) (ba : ∀ v ∈ la, 0 ≤ v ∧ v ≤ 255) (bb : ∀ v ∈ lb, 0 ≤ v ∧ v ≤ 255) (bc : ∀ v ∈ lc, -128 ≤ v ∧ v ≤ 127) (hn : 0 ≤ n ∧ n ≤ 255) (hK : -32768 ≤ K ∧ K ≤ 32767) (hch : 0 ≤ ch ∧ ch ≤ 255)
    (hx : IsRowsN w x DD) (hA : IsNs .i64 w sa A) (hB : IsNs .i64 w sb B) (hC : IsNs .i64 w sc C) (hD : IsNs .i64 w sd D) (hEE : IsNs .i64 w se E) (hE : EntIn w) (hT : TabZ w) :
    Calls Tryz.prog 4 #[caV zA zB zC k0 K ch x, .agg #[.int .i64 kd, .slice sa.A sa.n sa.c, .slice sb.A sb.n sb.c, .slice sc.A sc.n sc.c, .slice sd.A sd.n sd.c, .slice se.A se.n se.c, .int .i64 kk, .slice sr.A sr.n sr.c], .int .u8 n] w fun e w' => e = .returned (.bool true) ∧ Below w.heap.size w w' := by
  have q0 : 0 ≤ n / 8 ∧ n / 8 ≤ 31 := by omega
  obtain ⟨kq, hkq⟩ : ∃ kq, 1 + n / 8 % 23 = kq := ⟨_, rfl⟩
  obtain ⟨wa, hwa⟩ : ∃ wa, (w.alloc (.cells (caC zA zB zC k0 K ch x) 29)).alloc (.cells #[.int .i64 kd, .slice sa.A sa.n sa.c, .slice sb.A sb.n sb.c, .slice sc.A sc.n sc.c, .slice sd.A sd.n sd.c, .slice se.A se.n se.c, .int .i64 kk, .slice sr.A sr.n sr.c] 32) = wa := ⟨_, rfl⟩
  have e1 := heap_new w (.cells (caC zA zB zC k0 K ch x) 29)
  have e2 := heap_new (w.alloc (.cells (caC zA zB zC k0 K ch x) 29)) (.cells #[.int .i64 kd, .slice sa.A sa.n sa.c, .slice sb.A sb.n sb.c, .slice sc.A sc.n sc.c, .slice sd.A sd.n sd.c, .slice se.A se.n se.c, .int .i64 kk, .slice sr.A sr.n sr.c] 32)
  have z1 : (w.alloc (.cells (caC zA zB zC k0 K ch x) 29)).heap.size = w.heap.size + 1 := by simp
  rw [z1, hwa] at e2
  have hna : wa.heap[w.heap.size]? = some (.cells (caC zA zB zC k0 K ch x) 29 (0, 0)) := by
    rw [← hwa, Below.heap_alloc _ _ _ (by rw [z1]; omega)]
    exact e1
  have ba' : Below w.heap.size w wa := hwa ▸ (below1 w _).alloc (by simp) _
  have HNR : Hid (wa.heap[w.heap.size + 1]? = some (.cells #[.int .i64 kd, .slice sa.A sa.n sa.c, .slice sb.A sb.n sb.c, .slice sc.A sc.n sc.c, .slice sd.A sd.n sd.c, .slice se.A se.n se.c, .int .i64 kk, .slice sr.A sr.n sr.c] 32 (0, 0))) := Lib.hid e2
  have HSZ : Hid (wa.heap.size = w.heap.size + 1 + 1) := Lib.hid (by rw [← hwa]; simp)
  have hr4 := make_right la lb lc (kq - 1) K ch 5 ba bb (by omega) hch.1 (by omega)
  have HSL := Lib.hid (makeE_slim la lb lc (kq - 1) K ch 5)
  have CM0 := make10_sep zA zB zC x la lb lc DD k0 K ch kq 6 wa (ha.below ba') (hb.below ba') (hc.below ba') ba bb bc (by omega) hK hch (hx.below ba') (by omega)
  obtain ⟨c, hcE⟩ : ∃ c, c = makeE la lb lc (kq - 1) K ch 5 := ⟨_, rfl⟩
  rw [← hcE] at hr4 HSL CM0
  have HN0 := Lib.hid (some_of (n := 5) hr4)
  obtain ⟨N, hN⟩ : ∃ N, N = c.A.length + c.B.length := ⟨_, rfl⟩
  rw [← hN] at HN0 CM0
  have CM : Hid (Calls Tryz.prog 15 #[.agg #[.int .u8 k0, .slice zA.A zA.n zA.c, .slice zB.A zB.n zB.c, .slice zC.A zC.n zC.c, .int .i16 K, .int .u8 ch, .slice x.A x.n x.c], .int .i64 kq, .int .i64 6] wa fun e w' => (∃ (v : ConV) (y : Sl) (xs : List Sl), e = .returned (.tuple #[v.val c.kind c.K, .slice y.A y.n y.c]) ∧ ConIn w' v c ∧ MkR (wa.heap.size + 1 + 1 + 1 + 1 + 1) w' v c ∧ RowsO wa.heap.size w' y xs (caseD DD 6 N) ∧ ∃ m, wa.heap.size ≤ m ∧ RowsO m w' y xs (caseD DD 6 N) ∧ ∀ W', Below m w' W' → ConIn W' v c) ∧ Below wa.heap.size wa w') := Lib.hid CM0
  have HB0 := Lib.hid ba'
  have HE := Lib.hid hE
  have HT := Lib.hid hT
  have HAs := Lib.hid (And.intro (hA.below ba') (And.intro (hB.below ba') (And.intro (hC.below ba') (And.intro (hD.below ba') (hEE.below ba')))))
  have c0 := box_cell hna (j := 0) (x := .int .u8 k0) rfl
  have c1 := box_cell hna (j := 1) (x := .slice zA.A zA.n zA.c) rfl
  have c2 := box_cell hna (j := 2) (x := .slice zB.A zB.n zB.c) rfl
  have c3 := box_cell hna (j := 3) (x := .slice zC.A zC.n zC.c) rfl
  have c4 := box_cell hna (j := 4) (x := .int .i16 K) rfl
  have c5 := box_cell hna (j := 5) (x := .int .u8 ch) rfl
  have c6 := box_cell hna (j := 6) (x := .slice x.A x.n x.c) rfl
  clear q0 e1 e2 z1 hna ba' ha hb hc ba bb bc hK hch hx hE hT hcE hr4 hN CM0 hA hB hC hD hEE
  go_enter Tryz.func4, Tryz.ntmps4
  go_upto_region 1 with fail
  clear hwa
  go_wp2_with fail
  refine CM.out.mono ?_
  rintro e w2 ⟨⟨v, y, xs, rfl, hv, hm, hy, m0, hm0, hsep, hstab⟩, b2⟩
  obtain ⟨w3, hw3⟩ : ∃ w3, w2.alloc (.cells #[.int .i64 c.kind, .slice v.a.A v.a.n v.a.c, .slice v.b.A v.b.n v.b.c, .slice v.c.A v.c.n v.c.c, .slice v.d.A v.d.n v.d.c, .slice v.e.A v.e.n v.e.c, .int .i64 c.K, .slice v.r.A v.r.n v.r.c] 32) = w3 := ⟨_, rfl⟩
  have b23 : Below w2.heap.size w2 w3 := hw3 ▸ below1 w2 _
  have HC3 : Hid (w3.heap[w2.heap.size]? = some (.cells (v.cells c.kind c.K) 32 (0, 0))) := Lib.hid (hw3 ▸ heap_new w2 _)
  have HCN := Lib.hid (hv.below b23)
  have HMK := Lib.hid (hm.kp (Kp.of_below (G := w.heap.size) b23) (by have h := HSZ.out; omega))
  have HRO := Lib.hid (hy.below b23)
  have HSEP := Lib.hid (hsep.below b23)
  have HM0 := Lib.hid hm0
  have B3 := Lib.hid (b2.trans (b23.mono b2.size))
  have HGL : Hid (wa.heap.size ≤ w2.heap.size) := Lib.hid b2.size
  have HNRa := HNR
  have HNR3 := Lib.hid ((B3.out.block _ (by have h := HSZ.out; omega)).trans HNR.out)
  obtain ⟨g, hg⟩ : ∃ g, g = w2.heap.size := ⟨_, rfl⟩
  rw [← hg] at HC3 HGL
  have HXL : Hid (xs.length = N) := Lib.hid (by rw [hy.len, caseD_len])
  have hown : ∃ gy, y.A = some ⟨gy, 0, none⟩ ∧ y.n = xs.length ∧ m0 ≤ gy ∧ gy < w2.heap.size := by
    rcases hsep.row.2 with ⟨e, h0⟩ | ⟨gy, cap, cur, e, hb, hg', hnc, hcm, hcs, htake⟩
    · simp only [Value.slice.injEq] at e
      have h1 := hsep.row.1
      have h2 := HN0.out
      have h3 := HXL.out
      omega
    · simp only [Value.slice.injEq] at e
      exact ⟨gy, e.1, e.2.1, hb, (Array.getElem?_eq_some_iff.1 hg').1⟩
  have HOWN := Lib.hid hown
  have HW23 := Lib.hid b23.size
  have HM2 : Hid (m0 ≤ w2.heap.size) := Lib.hid (by obtain ⟨gy, -, -, h1, h2⟩ := hown; omega)
  have HST : Hid (∀ W', Below m0 w3 W' → ConIn W' v c) := Lib.hid (fun W' hW => hstab W' ((b23.mono HM2.out).trans hW))
  have HRW := Lib.hid (HRO.out.rows (by rw [caseD_len]; have := HN0.out.2; omega) (fun r hr => by have := (caseD_dom DD 6 N r hr).2; omega))
  have HDP : Hid ((caseD DD 6 N).length ≤ 200 ∧ ∀ l ∈ caseD DD 6 N, DomL l ∧ l.length ≤ 6) := Lib.hid ⟨by rw [caseD_len]; have := HN0.out.2; omega, caseD_dom DD 6 N⟩
  clear CM c0 c1 c2 c3 c4 c5 c6 hkq hv hm hy b2 b23 HNR hm0 hsep hstab hown
  go_upto_region 2 with fail
  clear hw3
  rw [← hg]
  clear hg
  go_upto_block 0 with fail
  obtain ⟨m, hm⟩ : ∃ m, m = n % 5 := ⟨_, rfl⟩
  rw [← hm]
  have hm5 : Hid (m = 0 ∨ m = 1 ∨ m = 2 ∨ m = 3 ∨ m = 4) := Lib.hid (by omega)
  clear hm
  go_cut [8, 9, 24, 31, 35, 41] from 24 to 67 (fun l _ _ _ _ _ wx => ∃ (y' : Sl) (v' : ConV) (c' : ConL) (D' : List (List Int)), l = .slice y'.A y'.n y'.c ∧ Hid (wx.heap[g]? = some (.cells (v'.cells c'.kind c'.K) 32 (0, 0))) ∧ Hid (ConIn wx v' c') ∧ Hid (IsRows wx y' D') ∧ Hid (D'.length ≤ 200 ∧ ∀ l ∈ D', DomL l ∧ l.length ≤ 6) ∧ Hid (Below wa.heap.size wa wx))
  case first =>
    have hyn : y.n = N := by have h1 := HRW.out.len; rw [caseD_len] at h1; exact h1
    have hN1 := HN0.out
    have hmb : ((m == 0) = true) ∨ ((m == 0) = false ∧ (m == 1) = true) ∨ ((m == 0) = false ∧ (m == 1) = false ∧ (m == 2) = true) ∨ ((m == 0) = false ∧ (m == 1) = false ∧ (m == 2) = false ∧ (m == 3) = true) ∨ ((m == 0) = false ∧ (m == 1) = false ∧ (m == 2) = false ∧ (m == 3) = false) := by
      rcases hm5.out with h | h | h | h | h <;> simp [h]
    rcases hmb with z0 | ⟨z0, z1⟩ | ⟨z0, z1, z2⟩ | ⟨z0, z1, z2, z3⟩ | ⟨z0, z1, z2, z3⟩
    · have wN : IntKind.i64.wrap (((N : Nat) : Int) - 1) = ((N - 1 : Nat) : Int) := by rw [show ((N : Nat) : Int) - 1 = ((N - 1 : Nat) : Int) by omega]; exact IntWalk.i64_in _ (by omega)
      have wN' : ((N : Nat) : Int) - 1 = ((N - 1 : Nat) : Int) := by omega
      obtain ⟨yA, yn, yc⟩ := y
      simp only at hyn
      subst hyn
      have hcap : yn - 1 ≤ yc := by
        have := HRO.out.row
        rcases this.2 with ⟨e, _⟩ | ⟨g', cap, cur, e, hb, hg, hnc, hcm, hcs, htake⟩
        · simp only [Value.slice.injEq] at e; omega
        · simp only [Value.slice.injEq] at e; omega
      have hsl := cutR_run yA yn yc (yn - 1) hcap
      have HP : Hid (((caseD DD 6 yn).take (yn - 1)).length ≤ 200 ∧ ∀ l ∈ (caseD DD 6 yn).take (yn - 1), DomL l ∧ l.length ≤ 6) := Lib.hid ⟨by rw [List.length_take]; omega, fun l hl => HDP.out.2 l (List.mem_of_mem_take hl)⟩
      have HRC := Lib.hid (HRW.out.cut (k := yn - 1) (by simp only; omega))
      go_wp2_with fail
      go_meet
      case rel => exact ⟨⟨yA, yn - 1, yc⟩, v, c, _, rfl, HC3, HCN, HRC, HP, B3⟩
    · obtain ⟨gy, hyA, hyx, hgm, hgs⟩ := HOWN.out
      obtain ⟨cur, hcur⟩ := own_type HSEP.out.row (k := gy) (by rw [hyA]; rfl)
      have hrow := HSEP.out.row
      rw [hyA, hyx] at hrow
      have hc0 := hrow.cellAt 0 (by have h1 := HXL.out; omega)
      obtain ⟨u0, hu0⟩ : ∃ u0, (xs.map rowV)[0]? = some u0 := ⟨_, List.getElem?_eq_getElem (by have h1 := HXL.out; simp; omega)⟩
      rw [hu0] at hc0
      have hf0 : w3.frozen? ⟨gy, 0, none⟩ = false := by
        obtain ⟨c1, k1⟩ := own_type HSEP.out.row (k := gy) (by rw [hyA]; rfl)
        exact box_free k1 0
      obtain ⟨yA, yn, yc⟩ := y
      simp only at hyA
      subst hyA
      obtain ⟨w4, hw4⟩ : ∃ w4, w3.setCell ⟨gy, 0, none⟩ (.slice none 0 0) = w4 := ⟨_, rfl⟩
      have HR4 : Hid (RowsO m0 w4 ⟨some ⟨gy, 0, none⟩, yn, yc⟩ (xs.set 0 ⟨none, 0, 0⟩) ((caseD DD 6 N).set 0 [])) := Lib.hid (hw4 ▸ HSEP.out.nil0 rfl)
      have B4 : Hid (Below m0 w3 w4) := Lib.hid (hw4 ▸ (Below.refl m0 w3 |>.mono (Nat.le_refl _)).setCell (p := ⟨gy, 0, none⟩) hgm _)
      have hgne : g ≠ gy := by
        intro e
        rw [← e] at hcur
        have := HC3.out
        rw [this] at hcur
        simp at hcur
      have HC4 : Hid (w4.heap[g]? = some (.cells (v.cells c.kind c.K) 32 (0, 0))) := Lib.hid (hw4 ▸ (heap_setCell_other w3 _ g _ hgne).trans HC3.out)
      have HCN4 := Lib.hid (HST.out w4 B4.out)
      have HP4 : Hid (((caseD DD 6 N).set 0 []).length ≤ 200 ∧ ∀ l ∈ (caseD DD 6 N).set 0 [], DomL l ∧ l.length ≤ 6) := Lib.hid ⟨by rw [List.length_set]; exact HDP.out.1, fun l hl => by
        rcases List.mem_or_eq_of_mem_set hl with h | h
        · exact HDP.out.2 l h
        · subst h; exact ⟨⟨List.Pairwise.nil, fun h => absurd rfl h⟩, by simp⟩⟩
      have HRW4 := Lib.hid (HR4.out.rows (by have := HP4.out.1; omega) (fun r hr => by have := (HP4.out.2 r hr).2; omega))
      have B34 := Lib.hid (B3.out.trans (B4.out.mono HM0.out))
      have hyN : 0 < yn := by have h1 := HXL.out; simp only at hyx; omega
      clear hcur hrow hu0 hgne HR4 hyn hyx
      go_wp2_with fail
      go_meet
      case rel => exact ⟨⟨some ⟨gy, 0, none⟩, yn, yc⟩, v, c, _, rfl, HC4, HCN4, HRW4, HP4, B34⟩
    · have NX : Hid (xs.length < 1000000) := Lib.hid (by rw [HXL.out]; omega)
      have LO3 : Hid (m0 ≤ w3.heap.size) := Lib.hid (Nat.le_trans HM2.out HW23.out)
      clear hyn
      go_wp2_with (at_builtin; refine wpList_append_row1 rfl _ _ rfl HSEP.out LO3.out 1 rfl rfl NX.out ?_; intro y1 w4 S1 q1 s1; have HS1 := Lib.hid S1; have HB4 := Lib.hid q1; have HS4 := Lib.hid s1; clear S1 q1 s1)
      have HC4 : Hid (w4.heap[g]? = some (.cells (v.cells c.kind c.K) 32 (0, 0))) := Lib.hid ((HS4.out g _ _ HC3.out (by decide)).trans HC3.out)
      have HCN4 := Lib.hid (HST.out w4 HB4.out)
      have hdom1 : DomL [1] := ⟨List.pairwise_singleton _ _, fun _ => by decide⟩
      have HP4 : Hid ((caseD DD 6 N ++ [[1]]).length ≤ 200 ∧ ∀ l ∈ caseD DD 6 N ++ [[1]], DomL l ∧ l.length ≤ 6) := Lib.hid ⟨by rw [List.length_append, caseD_len]; have := HN0.out.2; simp; omega, fun l hl => by
        rcases List.mem_append.1 hl with h | h
        · exact HDP.out.2 l h
        · simp only [List.mem_singleton] at h; subst h; exact ⟨hdom1, by simp⟩⟩
      have HRW4 := Lib.hid (HS1.out.rows (by have := HP4.out.1; omega) (fun r hr => by have := (HP4.out.2 r hr).2; omega))
      have B34 := Lib.hid (B3.out.trans (HB4.out.mono HM0.out))
      go_meet
      case rel => exact ⟨y1, v, c, _, rfl, HC4, HCN4, HRW4, HP4, B34⟩
    · obtain ⟨hAs, hBs, hCs, hDs, hEs⟩ := HAs.out
      have SA := Lib.hid (fun W => short12_any sa.A sa.n sa.c hAs.cap hAs.big W)
      have SB := Lib.hid (fun W => short12_any sb.A sb.n sb.c hBs.cap hBs.big W)
      have SC := Lib.hid (fun W => short12_any sc.A sc.n sc.c hCs.cap hCs.big W)
      have SD := Lib.hid (fun W => short12_any sd.A sd.n sd.c hDs.cap hDs.big W)
      have SE := Lib.hid (fun W => short12_any se.A se.n se.c hEs.cap hEs.big W)
      have HC3' := HC3.out
      have e0 := box_cell HC3' (j := 0) rfl
      have e1 := box_cell HC3' (j := 1) rfl
      have e2 := box_cell HC3' (j := 2) rfl
      have e3 := box_cell HC3' (j := 3) rfl
      have e4 := box_cell HC3' (j := 4) rfl
      have e5 := box_cell HC3' (j := 5) rfl
      have e6 := box_cell HC3' (j := 6) rfl
      have e7 := box_cell HC3' (j := 7) rfl
      have f0 := box_free HC3' 0
      have f1 := box_free HC3' 1
      have f2 := box_free HC3' 2
      have f3 := box_free HC3' 3
      have f4 := box_free HC3' 4
      have f5 := box_free HC3' 5
      have f6 := box_free HC3' 6
      have f7 := box_free HC3' 7
      obtain ⟨hQ, kQ⟩ := put8 HC3' (.int .i64 kd) (.slice sa.A (cut5 sa.n) sa.c) (.slice sb.A (cut5 sb.n) sb.c) (.slice sc.A (cut5 sc.n) sc.c) (.slice sd.A (cut5 sd.n) sd.c) (.slice se.A (cut5 se.n) se.c) (.int .i64 kk) (.slice none 0 0)
      have b3d := B3.out.drew
      have b3q := (B3.out.trans (kQ.below B3.out.size HGL.out)).drew
      have HSr : Hid (∀ W, Below wa.heap.size wa W → W.cell? ⟨w.heap.size + 1, 0, none⟩ = some (.int .i64 kd) ∧ W.cell? ⟨w.heap.size + 1, 1, none⟩ = some (.slice sa.A sa.n sa.c) ∧ W.cell? ⟨w.heap.size + 1, 2, none⟩ = some (.slice sb.A sb.n sb.c) ∧ W.cell? ⟨w.heap.size + 1, 3, none⟩ = some (.slice sc.A sc.n sc.c) ∧ W.cell? ⟨w.heap.size + 1, 4, none⟩ = some (.slice sd.A sd.n sd.c) ∧ W.cell? ⟨w.heap.size + 1, 5, none⟩ = some (.slice se.A se.n se.c) ∧ W.cell? ⟨w.heap.size + 1, 6, none⟩ = some (.int .i64 kk)) := Lib.hid (fun W hW => by
        have h := (hW.block _ (by have h := HSZ.out; omega)).trans HNRa.out
        exact ⟨box_cell h rfl, box_cell h rfl, box_cell h rfl, box_cell h rfl, box_cell h rfl, box_cell h rfl, box_cell h rfl⟩)
      have HQ := Lib.hid hQ
      have HKQ := Lib.hid kQ
      have BQ := Lib.hid b3q
      have hS := HSr.out _ b3d
      have hS9 := HSr.out _ b3q
      clear hyn hQ kQ b3d b3q HC3' hAs hBs hCs hDs hEs
      go_upto_region 11 with fail
      go_region_held3 (fun W => W.cell? ⟨w.heap.size + 1, 0, none⟩ = some (.int .i64 kd) ∧ W.cell? ⟨w.heap.size + 1, 1, none⟩ = some (.slice sa.A sa.n sa.c) ∧ W.cell? ⟨w.heap.size + 1, 2, none⟩ = some (.slice sb.A sb.n sb.c) ∧ W.cell? ⟨w.heap.size + 1, 3, none⟩ = some (.slice sc.A sc.n sc.c) ∧ W.cell? ⟨w.heap.size + 1, 4, none⟩ = some (.slice sd.A sd.n sd.c) ∧ W.cell? ⟨w.heap.size + 1, 5, none⟩ = some (.slice se.A se.n se.c) ∧ W.cell? ⟨w.heap.size + 1, 6, none⟩ = some (.int .i64 kk)) (first | with_reducible assumption)
        (first
          | (with_reducible refine (SA.out _).mono ?_; rintro e wA ⟨rfl, rfl⟩)
          | (with_reducible refine (SB.out _).mono ?_; rintro e wA ⟨rfl, rfl⟩)
          | (with_reducible refine (SC.out _).mono ?_; rintro e wA ⟨rfl, rfl⟩)
          | (with_reducible refine (SD.out _).mono ?_; rintro e wA ⟨rfl, rfl⟩)
          | (with_reducible refine (SE.out _).mono ?_; rintro e wA ⟨rfl, rfl⟩))
      obtain ⟨w4', hw4'⟩ : ∃ w4', ((((((((w3.setCell ⟨g, 0, none⟩ (.int .i64 kd)).setCell ⟨g, 1, none⟩ (.slice sa.A (cut5 sa.n) sa.c)).setCell ⟨g, 2, none⟩ (.slice sb.A (cut5 sb.n) sb.c)).setCell ⟨g, 3, none⟩ (.slice sc.A (cut5 sc.n) sc.c)).setCell ⟨g, 4, none⟩ (.slice sd.A (cut5 sd.n) sd.c)).setCell ⟨g, 5, none⟩ (.slice se.A (cut5 se.n) se.c)).setCell ⟨g, 6, none⟩ (.int .i64 kk)).setCell ⟨g, 7, none⟩ (.slice none 0 0)) = w4' := ⟨_, rfl⟩
      rw [hw4']
      have hq4 := HQ.out
      have hk4 := HKQ.out
      have HB4 := BQ.out
      rw [hw4'] at hq4 hk4 HB4
      have hro4 := (HSEP.out.far8 HC3.out hk4).below (Below.refl _ _).drew
      have hq5 : w4'.drew.heap[g]? = some (.cells #[.int .i64 kd, .slice sa.A (cut5 sa.n) sa.c, .slice sb.A (cut5 sb.n) sb.c, .slice sc.A (cut5 sc.n) sc.c, .slice sd.A (cut5 sd.n) sd.c, .slice se.A (cut5 se.n) se.c, .int .i64 kk, .slice none 0 0] 32 (0, 0)) := hq4
      obtain ⟨w4, hw4⟩ : ∃ w4, w4'.drew = w4 := ⟨_, rfl⟩
      rw [hw4]
      rw [hw4] at HB4 hro4 hq5
      have HRO4 := Lib.hid hro4
      have HC4 : Hid (w4.heap[g]? = some (.cells ((⟨⟨sa.A, cut5 sa.n, sa.c⟩, ⟨sb.A, cut5 sb.n, sb.c⟩, ⟨sc.A, cut5 sc.n, sc.c⟩, ⟨sd.A, cut5 sd.n, sd.c⟩, ⟨se.A, cut5 se.n, se.c⟩, ⟨none, 0, 0⟩⟩ : ConV).cells (⟨kd, A.take (cut5 sa.n), B.take (cut5 sb.n), C.take (cut5 sc.n), D.take (cut5 sd.n), E.take (cut5 se.n), kk, []⟩ : ConL).kind (⟨kd, A.take (cut5 sa.n), B.take (cut5 sb.n), C.take (cut5 sc.n), D.take (cut5 sd.n), E.take (cut5 se.n), kk, []⟩ : ConL).K) 32 (0, 0))) := Lib.hid hq5
      clear hq4 hk4 hro4 hq5 hw4'
      obtain ⟨hAs, hBs, hCs, hDs, hEs⟩ := HAs.out
      have l5 : ∀ n, cut5 n ≤ 1000 := fun n => by have := cut5_le n; omega
      have HCN4 : Hid (ConIn w4 ⟨⟨sa.A, cut5 sa.n, sa.c⟩, ⟨sb.A, cut5 sb.n, sb.c⟩, ⟨sc.A, cut5 sc.n, sc.c⟩, ⟨sd.A, cut5 sd.n, sd.c⟩, ⟨se.A, cut5 se.n, se.c⟩, ⟨none, 0, 0⟩⟩ ⟨kd, A.take (cut5 sa.n), B.take (cut5 sb.n), C.take (cut5 sc.n), D.take (cut5 sd.n), E.take (cut5 se.n), kk, []⟩) := Lib.hid ⟨(hAs.cut (cut5_le _).1 (l5 _)).below HB4, (hBs.cut (cut5_le _).1 (l5 _)).below HB4, (hCs.cut (cut5_le _).1 (l5 _)).below HB4, (hDs.cut (cut5_le _).1 (l5 _)).below HB4, (hEs.cut (cut5_le _).1 (l5 _)).below HB4, IsRows.nil _⟩
      have HRW4 := Lib.hid (HRO4.out.rows (by have := HDP.out.1; omega) (fun r hr => by have := (HDP.out.2 r hr).2; omega))
      have HBB4 := Lib.hid HB4
      clear hw4 HRO4 HB4 hAs hBs hCs hDs hEs l5 HQ HKQ BQ hS hS9 HSr SA SB SC SD SE e0 e1 e2 e3 e4 e5 e6 e7 f0 f1 f2 f3 f4 f5 f6 f7
      go_wp2_with fail
      go_meet
      case rel => exact ⟨y, _, _, _, rfl, HC4, HCN4, HRW4, HDP, HBB4⟩
    · go_wp2_with fail
      go_meet
      case rel => exact ⟨y, v, c, _, rfl, HC3, HCN, HRW, HDP, B3⟩
  case rest =>
    clear HC3 HCN HMK HRO HSEP HM0 HXL HW23 HM2 HST HOWN B3 HRW HDP HNR3 HNRa HSL HN0 hm5
    obtain ⟨y, v, c, D, rfl, HC3, HCN, HRW, HD, B3⟩ := hcut
    obtain ⟨w3, rfl⟩ : ∃ w3, w3 = wc := ⟨_, rfl⟩
    have HDL : Hid (D.map ofL = D) := Lib.hid ((List.map_congr_left (fun l hl => ofL_dom (HD.out.2 l hl).1)).trans (List.map_id' _))
    have BW := Lib.hid (HB0.out.trans (B3.out.mono HB0.out.size))
    have HS : Hid (∀ W, Below w3.heap.size w3 W → Below w3.heap.size w3 W ∧ W.cell? ⟨g, 0, none⟩ = some (.int .i64 c.kind) ∧ W.cell? ⟨g, 1, none⟩ = some (.slice v.a.A v.a.n v.a.c) ∧ W.cell? ⟨g, 2, none⟩ = some (.slice v.b.A v.b.n v.b.c) ∧ W.cell? ⟨g, 3, none⟩ = some (.slice v.c.A v.c.n v.c.c) ∧ W.cell? ⟨g, 4, none⟩ = some (.slice v.d.A v.d.n v.d.c) ∧ W.cell? ⟨g, 5, none⟩ = some (.slice v.e.A v.e.n v.e.c) ∧ W.cell? ⟨g, 6, none⟩ = some (.int .i64 c.K) ∧ W.cell? ⟨g, 7, none⟩ = some (.slice v.r.A v.r.n v.r.c)) := Lib.hid (fun W hW => by
      have h := (hW.block _ (Array.getElem?_eq_some_iff.1 HC3.out).1).trans HC3.out
      exact ⟨hW, box_cell h rfl, box_cell h rfl, box_cell h rfl, box_cell h rfl, box_cell h rfl, box_cell h rfl, box_cell h rfl, box_cell h rfl⟩)
    have CD : Hid (∀ W, Below w3.heap.size w3 W → Calls Tryz.prog 18 #[.slice y.A y.n y.c] W fun e w' => (∃ (y' : Sl), e = .returned (.slice y'.A y'.n y'.c) ∧ DomsIn w' y' D) ∧ Below W.heap.size W w') := Lib.hid (fun W hW => by
      refine (doms_any y D W (HRW.out.below hW) (by have := HD.out.1; omega) (fun r hr => by have := (HD.out.2 r hr).2; omega)).mono ?_
      rintro e w' ⟨⟨y', ds, rfl, h⟩, b⟩
      rw [HDL.out] at h
      exact ⟨⟨y', rfl, h.within (by have := HD.out.1; omega)⟩, b⟩)
    have CF0 := Lib.hid (fun W y' (hW : Below w3.heap.size w3 W) (hd : DomsIn W y' D) => ext_any v c y' D W (HE.out.below (BW.out.trans (hW.mono BW.out.size))) (HT.out.below (BW.out.trans (hW.mono BW.out.size))) (HCN.out.below hW) hd (fun l hl => by have := (HD.out.2 l hl).2; omega))
    have CR0 := Lib.hid (fun W (hW : Below w3.heap.size w3 W) => fits_any v c y D 8 10 W (HCN.out.below hW) (HRW.out.below hW))
    have CW := Lib.hid (fun W (hW : Below w3.heap.size w3 W) => extWakes_any W (HE.out.below (BW.out.trans (hW.mono BW.out.size))) (HT.out.below (BW.out.trans (hW.mono BW.out.size))))
    have HTL := Lib.hid (extE_tells c D)
    have HYN : Hid (y.n = D.length) := Lib.hid HRW.out.len
    obtain ⟨bo, hbo⟩ : ∃ bo, bo = (extE c D).isSome := ⟨_, rfl⟩
    obtain ⟨R, hR⟩ : ∃ R, R = (extE c D).getD [] := ⟨_, rfl⟩
    obtain ⟨bf, hbf⟩ : ∃ bf, bf = fitsE c D 8 10 := ⟨_, rfl⟩
    have HNONE : Hid (bf = false → bo = false ∧ R = []) := Lib.hid (fun h => by
      have := HTL.out.2 (hbf.symm.trans h)
      rw [hbo, hR, this]
      exact ⟨rfl, rfl⟩)
    have HSOME : Hid (bf = true → bo = true → R.length = D.length) := Lib.hid (fun h h' => by
      rw [hR]
      exact HTL.out.1 (hbf.symm.trans h) (hbo.symm.trans h'))
    rw [← hbo, ← hR] at CF0
    rw [← hbf] at CR0
    clear hbo hR hbf HTL HC3 HAs HSZ HB0 HGL
    go_upto_region 12 with fail
    have hS := HS.out w3.drew (Below.refl _ _).drew
    go_region_held3 (fun W => Below w3.heap.size w3 W ∧ W.cell? ⟨g, 0, none⟩ = some (.int .i64 c.kind) ∧ W.cell? ⟨g, 1, none⟩ = some (.slice v.a.A v.a.n v.a.c) ∧ W.cell? ⟨g, 2, none⟩ = some (.slice v.b.A v.b.n v.b.c) ∧ W.cell? ⟨g, 3, none⟩ = some (.slice v.c.A v.c.n v.c.c) ∧ W.cell? ⟨g, 4, none⟩ = some (.slice v.d.A v.d.n v.d.c) ∧ W.cell? ⟨g, 5, none⟩ = some (.slice v.e.A v.e.n v.e.c) ∧ W.cell? ⟨g, 6, none⟩ = some (.int .i64 c.K) ∧ W.cell? ⟨g, 7, none⟩ = some (.slice v.r.A v.r.n v.r.c)) (first | with_reducible assumption)
      (first
        | (go_at_call 18; with_reducible refine (CD.out _ hS.1).mono ?_; rintro e w6 ⟨⟨y6, rfl, h6⟩, b6⟩; have HD6 := Lib.hid h6; have hS := HS.out _ (hS.1.trans (b6.mono hS.1.size)))
        | (go_at_call 17; with_reducible refine (CF0.out _ y6 hS.1 HD6.out).mono ?_; rintro e w7 ⟨⟨y7, rfl, h7⟩, b7⟩; have HD7 := Lib.hid h7.len; have B7 := Lib.hid (hS.1.trans (b7.mono hS.1.size)); have hS := HS.out _ B7.out))
    clear CD CF0 hS
    obtain ⟨-, c0, c1, c2, c3, c4, c5, c6, c7⟩ := HS.out w7 B7.out
    have CRR := Lib.hid (CR0.out w7 B7.out)
    clear CR0 HS
    cases bf with
    | false =>
      obtain ⟨hb1, hb2⟩ := HNONE.out rfl
      subst hb1
      subst hb2
      have hy7 : y7.n = 0 := HD7.out
      clear HNONE HSOME
      go_wp2_with fail
      refine CRR.out.mono ?_
      rintro e w8 ⟨rfl, b8⟩
      have B8 := Lib.hid (B7.out.trans (b8.mono B7.out.size))
      clear CRR b8 c0 c1 c2 c3 c4 c5 c6 c7 B7
      go_wp2_with fail
      refine (CW.out w8 B8.out).mono ?_
      rintro e w9 ⟨rfl, b9⟩
      have BE := Lib.hid (BW.out.trans ((B8.out.trans (b9.mono B8.out.size)).mono BW.out.size))
      clear b9 CW B8
      go_wp2_with fail
      go_ret
      exact ⟨rfl, BE.out⟩
    | true =>
      cases bo with
      | false =>
        clear HNONE HSOME
        go_wp2_with fail
        refine CRR.out.mono ?_
        rintro e w8 ⟨rfl, b8⟩
        have B8 := Lib.hid (B7.out.trans (b8.mono B7.out.size))
        clear CRR b8 c0 c1 c2 c3 c4 c5 c6 c7 B7
        go_wp2_with fail
        refine (CW.out w8 B8.out).mono ?_
        rintro e w9 ⟨rfl, b9⟩
        have BE := Lib.hid (BW.out.trans ((B8.out.trans (b9.mono B8.out.size)).mono BW.out.size))
        clear b9 CW B8
        go_wp2_with fail
        go_ret
        exact ⟨rfl, BE.out⟩
      | true =>
        have hy7 : (((y7.n : Nat) : Int) == ((y.n : Nat) : Int)) = true := by
          have h1 := HSOME.out rfl rfl
          have h2 := HD7.out
          have h3 := HYN.out
          simp only [beq_iff_eq]
          omega
        clear HNONE HSOME
        go_wp2_with fail
        refine CRR.out.mono ?_
        rintro e w8 ⟨rfl, b8⟩
        have B8 := Lib.hid (B7.out.trans (b8.mono B7.out.size))
        clear CRR b8 c0 c1 c2 c3 c4 c5 c6 c7 B7
        go_wp2_with fail
        refine (CW.out w8 B8.out).mono ?_
        rintro e w9 ⟨rfl, b9⟩
        have BE := Lib.hid (BW.out.trans ((B8.out.trans (b9.mono B8.out.size)).mono BW.out.size))
        clear b9 CW B8
        go_wp2_with fail
        go_ret
        exact ⟨rfl, BE.out⟩
end Go.Proofs.YtkhmocbfkpbpfaaGreatDoor

namespace Go.Proofs.YtkhmocbfkpbpfaaGreatDoor
open Go.ChangeShapes Go.WideShapes Go.ChangeAt Go.RowKit Go.Deep

theorem cellsCon : Tryz.prog.cellsOf 32 = 8 := by kernel_rfl
theorem cellsInt : Tryz.prog.cellsOf 3 = 1 := by kernel_rfl
theorem cellsLInt : Tryz.prog.cellsOf 30 = 1 := by kernel_rfl
theorem cellsLLInt : Tryz.prog.cellsOf 27 = 1 := by kernel_rfl
set_option maxRecDepth 100000 in
theorem raw_view {H : Type} {enc : TypeId × Value → H} {W : World} {b0 : Nat} {v : Value} {d : DataW H} {p : List MemPlace} (hv : Value.okWide Tryz.prog W .any b0 32 v)
    (h : DataW.Trod enc Tryz.prog W 0 (fun _ => true) true 32 v d p) : ∃ (kd kk : Int) (a b c d' e r : Sl) (A B C D E : List Int), v = .agg #[.int .i64 kd, .slice a.A a.n a.c, .slice b.A b.n b.c, .slice c.A c.n c.c, .slice d'.A d'.n d'.c, .slice e.A e.n e.c, .int .i64 kk, .slice r.A r.n r.c] ∧
      IsNs .i64 W a A ∧ IsNs .i64 W b B ∧ IsNs .i64 W c C ∧ IsNs .i64 W d' D ∧ IsNs .i64 W e E := by
  obtain ⟨cs, rfl, hsz⟩ := okWide_struct Tryz.underlying32 hv
  obtain ⟨fuel, hf⟩ := h
  obtain ⟨l⟩ := cs
  match l, hsz.trans cellsCon with
  | [u0, u1, u2, u3, u4, u5, u6, u7], _ =>
    obtain ⟨xs, n', _, _, _, hxl, hg⟩ := DataW.trod_struct Tryz.underlying32 hf
    match xs, hxl with
    | [x0, x1, x2, x3, x4, x5, x6, x7], _ =>
      have f0 : DataW.trod enc Tryz.prog W 0 (fun _ => true) true n' 3 [u0] = some x0 := by
        have := hg 0 _ rfl
        simpa [cellsInt, Value.cells] using this
      have f1 : DataW.trod enc Tryz.prog W 0 (fun _ => true) true n' 30 [u1] = some x1 := by
        have := hg 1 _ rfl
        simpa [cellsLInt, Value.cells] using this
      have f2 : DataW.trod enc Tryz.prog W 0 (fun _ => true) true n' 30 [u2] = some x2 := by
        have := hg 2 _ rfl
        simpa [cellsLInt, Value.cells] using this
      have f3 : DataW.trod enc Tryz.prog W 0 (fun _ => true) true n' 30 [u3] = some x3 := by
        have := hg 3 _ rfl
        simpa [cellsLInt, Value.cells] using this
      have f4 : DataW.trod enc Tryz.prog W 0 (fun _ => true) true n' 30 [u4] = some x4 := by
        have := hg 4 _ rfl
        simpa [cellsLInt, Value.cells] using this
      have f5 : DataW.trod enc Tryz.prog W 0 (fun _ => true) true n' 30 [u5] = some x5 := by
        have := hg 5 _ rfl
        simpa [cellsLInt, Value.cells] using this
      have f6 : DataW.trod enc Tryz.prog W 0 (fun _ => true) true n' 3 [u6] = some x6 := by
        have := hg 6 _ rfl
        simpa [cellsInt, Value.cells] using this
      have f7 : DataW.trod enc Tryz.prog W 0 (fun _ => true) true n' 27 [u7] = some x7 := by
        have := hg 7 _ rfl
        simpa [cellsLLInt, Value.cells] using this
      obtain ⟨kd, e0, _, _⟩ := DataW.trod_int Tryz.underlying3 f0
      obtain ⟨kk, e6, _, _⟩ := DataW.trod_int Tryz.underlying3 f6
      obtain ⟨a, A, e1, h1, _⟩ := ns_view Tryz.underlying30 Tryz.underlying3 cellsInt f1
      obtain ⟨b, B, e2, h2, _⟩ := ns_view Tryz.underlying30 Tryz.underlying3 cellsInt f2
      obtain ⟨c, C, e3, h3, _⟩ := ns_view Tryz.underlying30 Tryz.underlying3 cellsInt f3
      obtain ⟨d', D, e4, h4, _⟩ := ns_view Tryz.underlying30 Tryz.underlying3 cellsInt f4
      obtain ⟨e, E, e5, h5, _⟩ := ns_view Tryz.underlying30 Tryz.underlying3 cellsInt f5
      obtain ⟨r, e7⟩ : ∃ r : Sl, u7 = .slice r.A r.n r.c := by
        rcases DataW.trod_slice Tryz.underlying27 f7 with ⟨h0, _⟩ | ⟨a, len, cap, elems, rest, n, _, hcs, _⟩
        · simp only [List.cons.injEq, and_true] at h0
          exact ⟨⟨none, 0, 0⟩, h0⟩
        · simp only [List.cons.injEq, and_true] at hcs
          exact ⟨⟨some a, len, cap⟩, hcs⟩
      simp only [List.cons.injEq, and_true] at e0 e6
      subst e0 e1 e2 e3 e4 e5 e6 e7
      exact ⟨kd, kk, a, b, c, d', e, r, A, B, C, D, E, rfl, h1, h2, h3, h4, h5⟩
end Go.Proofs.YtkhmocbfkpbpfaaGreatDoor
