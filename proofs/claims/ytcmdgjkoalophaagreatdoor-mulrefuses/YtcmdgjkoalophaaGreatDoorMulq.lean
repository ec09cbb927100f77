/- The law MulFilters walked. -/
import Derived.Test.YtcmdgjkoalophaaGreatDoorMrd5
import Derived.Test.YtcmdgjkoalophaaGreatDoorCaopen
import Derived.Test.YtcmdgjkoalophaaGreatDoorDRefOf
namespace Go.Proofs.YtcmdgjkoalophaaGreatDoor
open Go.RowKit Go.Sort

theorem ofL_dom {L : List Int} (h : DomL L) : ofL L = L := by
  by_cases e : L = []
  · subst e; rfl
  · rw [ofL_ok _ (h.2 e)]
    exact eq_of_rising _ _ (rising_setOf _) h.1 (fun v => mem_setOf L v)
theorem domL_ofL (S : List Int) : DomL (ofL S) := by
  by_cases he : ofErr S = 0
  · rw [ofL_ok _ he]
    exact ⟨rising_setOf _, fun hn => ofErr_sub he hn fun v hv => (mem_setOf S v).1 hv⟩
  · rw [ofL_err _ _ rfl he]
    exact ⟨List.Pairwise.nil, fun h => absurd rfl h⟩
theorem ofL_short (S : List Int) : (ofL S).length ≤ S.length := by
  by_cases he : ofErr S = 0
  · rw [ofL_ok _ he]; exact setOf_len S
  · rw [ofL_err _ _ rfl he]; simp
/-- The domains that a case has. -/
def caseD (DD : List (List Int)) (wd : Int) (n : Nat) : List (List Int) := (List.range n).map (domsE DD wd)
theorem caseD_dom (DD : List (List Int)) (wd : Int) (n : Nat) : ∀ l ∈ caseD DD wd n, DomL l ∧ l.length ≤ 6 := by
  intro l hl
  unfold caseD at hl
  obtain ⟨i, -, rfl⟩ := List.mem_map.1 hl
  unfold domsE smallW
  exact ⟨domL_ofL _, Nat.le_trans (ofL_short _) (modW_len _ _ _)⟩
theorem caseD_ofL (DD : List (List Int)) (wd : Int) (n : Nat) : (caseD DD wd n).map ofL = caseD DD wd n := by
  have : ∀ l ∈ caseD DD wd n, ofL l = l := fun l hl => ofL_dom (caseD_dom DD wd n l hl).1
  exact (List.map_congr_left this).trans (List.map_id' _)
theorem caseD_len (DD : List (List Int)) (wd : Int) (n : Nat) : (caseD DD wd n).length = n := by simp [caseD]

theorem mulE_small {c : ConL} {D : List (List Int)} (hD : ∀ l ∈ D, DomL l ∧ l.length ≤ 60) : ((mulE c D).getD []).length ≤ 3 ∧ ∀ r ∈ (mulE c D).getD [], r.length ≤ 4096 := by
  cases hf : fitsE c D 5 7 with
  | false =>
    have : mulE c D = none := by unfold mulE; rw [if_neg (by rw [hf]; decide)]
    rw [this]
    exact ⟨by simp, fun r hr => by cases hr⟩
  | true =>
    obtain ⟨A, Bs, C, rfl, hk, ha, hb, hc⟩ := fits_three hf
    obtain ⟨qA, lA⟩ := hD A (by simp)
    obtain ⟨qB, lB⟩ := hD Bs (by simp)
    obtain ⟨qC, lC⟩ := hD C (by simp)
    have hab : A.length * Bs.length ≤ 4096 := Nat.le_trans (Nat.mul_le_mul lA lB) (by omega)
    rw [mulE_few hf qA qB qC hab]
    have hl := hitsE_len (kindV c.kind) C A Bs
    split
    · exact ⟨by simp, fun r hr => by cases hr⟩
    · refine ⟨by simp, fun r hr => ?_⟩
      simp only [Option.getD_some, List.mem_cons, List.not_mem_nil, or_false] at hr
      rcases hr with rfl | rfl | rfl
      · refine Nat.le_trans (ofL_short _) ?_; simp only [h1, List.length_map]; omega
      · refine Nat.le_trans (ofL_short _) ?_; simp only [h2, List.length_map]; omega
      · refine Nat.le_trans (ofL_short _) ?_; simp only [h3, List.length_map]; omega
theorem zero_drew (W : World) : (W.alloc (.cells #[.int .i64 0, .slice none 0 0, .slice none 0 0, .slice none 0 0, .slice none 0 0, .slice none 0 0, .int .i64 0, .slice none 0 0] 37)).drew.heap[W.heap.size]? = some (.cells zeroC 37 (0, 0)) := by
  have h := heap_new W (.cells #[.int .i64 0, .slice none 0 0, .slice none 0 0, .slice none 0 0, .slice none 0 0, .slice none 0 0, .int .i64 0, .slice none 0 0] 37)
  exact h

set_option maxHeartbeats 4000000 in
set_option maxRecDepth 100000 in
theorem mulFilters_walk (zA zB zC x : Sl) (la lb lc : List Int) (DD : List (List Int)) (k0 n K ch : Int) (w : World) (ha : IsNs .u8 w zA la) (hb : IsNs .u8 w zB lb) (hc : IsNs .i8 w zC lc) (ba : ∀ v ∈ la, 0 ≤ v ∧ v ≤ 255) (bb : ∀ v ∈ lb, 0 ≤ v ∧ v ≤ 255) (bc : ∀ v ∈ lc, -128 ≤ v ∧ v ≤ 127) (hn : 0 ≤ n ∧ n ≤ 255) (hK : -32768 ≤ K ∧ K ≤ 32767) (hch : 0 ≤ ch ∧ ch ≤ 255)
    (hx : IsRowsN w x DD) (hE : EntIn w) (hT : TabZ w) :
    Calls Tryz.prog 10 #[caV zA zB zC k0 K ch x, .int .u8 n] w fun e w' => e = .returned (.bool true) ∧ Below w.heap.size w w' := by
  have t1 := tmod_in n 3 (by omega)
  have t0 := Int.tmod_nonneg 3 hn.1
  obtain ⟨kd, hkd⟩ : ∃ kd, kd = 5 + n.tmod 3 := ⟨_, rfl⟩
  have CK := Lib.hid (fun W => mulKind_any n W hn)
  rw [← hkd] at CK
  have hk3 : kd = 5 ∨ kd = 6 ∨ kd = 7 := by omega
  obtain ⟨wa, hwa⟩ : ∃ wa, w.alloc (.cells (caC zA zB zC k0 K ch x) 56) = wa := ⟨_, rfl⟩
  have hna : wa.heap[w.heap.size]? = some (.cells (caC zA zB zC k0 K ch x) 56 (0, 0)) := hwa ▸ heap_new w _
  have ba' : Below w.heap.size w wa := hwa ▸ below1 w _
  have hr4 := make_right la lb lc (kd - 1) K ch 5 ba bb (by omega) hch.1 (by omega)
  obtain ⟨c, hcE⟩ : ∃ c, c = makeE la lb lc (kd - 1) K ch 5 := ⟨_, rfl⟩
  have hck : c.kind = kd := by
    have : (makeE la lb lc (kd - 1) K ch 5).kind = 1 + (kd - 1).tmod 23 := makeE_kind la lb lc (kd - 1) K ch 5 (by omega)
    rw [hcE, this, Int.tmod_eq_of_lt (by omega) (by omega)]
    omega
  have HSL := Lib.hid (makeE_slim la lb lc (kd - 1) K ch 5)
  rw [← hcE] at hr4 HSL
  have hr256 := right_more hr4 (show (5 : Int) ≤ 256 by omega)
  have h3 := three_mul hr256 (by rw [hck]; exact hk3)
  have CM : Hid (∀ W, Below wa.heap.size wa W → Calls Tryz.prog 28 #[.agg #[.int .u8 k0, .slice zA.A zA.n zA.c, .slice zB.A zB.n zB.c, .slice zC.A zC.n zC.c, .int .i16 K, .int .u8 ch, .slice x.A x.n x.c], .int .i64 kd, .int .i64 6] W fun e w' => (∃ (v : ConV) (y : Sl) (xs : List Sl), e = .returned (.tuple #[v.val c.kind c.K, .slice y.A y.n y.c]) ∧ ConIn w' v c ∧ MkR (W.heap.size + 1 + 1 + 1 + 1 + 1) w' v c ∧ RowsO W.heap.size w' y xs (caseD DD 6 3)) ∧ Below W.heap.size W w') := Lib.hid (fun W hW => by
    have b := ba'.trans (hW.mono ba'.size)
    have h := make10_full zA zB zC x la lb lc DD k0 K ch kd 6 W (ha.below b) (hb.below b) (hc.below b) ba bb bc (by omega) hK hch (hx.below b) (by omega)
    rw [← hcE, h3.1, h3.2] at h
    exact h)
  have HC3 := Lib.hid h3
  have HKD : Hid (c.kind = 5 ∨ c.kind = 6 ∨ c.kind = 7) := Lib.hid (by rw [hck]; exact hk3)
  have HB0 := Lib.hid ba'
  have HE := Lib.hid hE
  have HT := Lib.hid hT
  have HNA := Lib.hid hna
  have HLT : Hid (w.heap.size < wa.heap.size) := Lib.hid (Array.getElem?_eq_some_iff.1 hna).1
  have HS : Hid (∀ W, Below wa.heap.size wa W → Below wa.heap.size wa W ∧ W.cell? ⟨w.heap.size, 0, none⟩ = some (.int .u8 k0) ∧ W.cell? ⟨w.heap.size, 1, none⟩ = some (.slice zA.A zA.n zA.c) ∧ W.cell? ⟨w.heap.size, 2, none⟩ = some (.slice zB.A zB.n zB.c) ∧ W.cell? ⟨w.heap.size, 3, none⟩ = some (.slice zC.A zC.n zC.c) ∧ W.cell? ⟨w.heap.size, 4, none⟩ = some (.int .i16 K) ∧ W.cell? ⟨w.heap.size, 5, none⟩ = some (.int .u8 ch) ∧ W.cell? ⟨w.heap.size, 6, none⟩ = some (.slice x.A x.n x.c)) := Lib.hid (fun W hW => by
    have h := (hW.block _ (Array.getElem?_eq_some_iff.1 HNA.out).1).trans HNA.out
    exact ⟨hW, box_cell h rfl, box_cell h rfl, box_cell h rfl, box_cell h rfl, box_cell h rfl, box_cell h rfl, box_cell h rfl⟩)
  clear t1 t0 hkd hk3 hna ba' ha hb hc ba bb bc hn hK hch hx hE hT hcE hck hr4 hr256 h3
  go_enter Tryz.func10, Tryz.ntmps10
  go_upto_region 1 with fail
  clear hwa
  have hS := HS.out wa.drew (Below.refl _ _).drew
  go_region_held3 (fun W => Below wa.heap.size wa W ∧ W.cell? ⟨w.heap.size, 0, none⟩ = some (.int .u8 k0) ∧ W.cell? ⟨w.heap.size, 1, none⟩ = some (.slice zA.A zA.n zA.c) ∧ W.cell? ⟨w.heap.size, 2, none⟩ = some (.slice zB.A zB.n zB.c) ∧ W.cell? ⟨w.heap.size, 3, none⟩ = some (.slice zC.A zC.n zC.c) ∧ W.cell? ⟨w.heap.size, 4, none⟩ = some (.int .i16 K) ∧ W.cell? ⟨w.heap.size, 5, none⟩ = some (.int .u8 ch) ∧ W.cell? ⟨w.heap.size, 6, none⟩ = some (.slice x.A x.n x.c)) (first | with_reducible assumption | with_reducible exact hS9 | with_reducible exact HS.out _ (hS.1.alloc hS.1.size _) | with_reducible exact HS.out _ (((Below.refl wa.heap.size wa).alloc (Nat.le_refl _) _).drew))
    (first
      | (go_at_call 42; refine (CK.out _).mono ?_; rintro e w' ⟨rfl, rfl⟩)
      | (go_at_call 28; have hS := HS.out _ (((Below.refl wa.heap.size wa).alloc (Nat.le_refl _) (.cells #[.int .i64 0, .slice none 0 0, .slice none 0 0, .slice none 0 0, .slice none 0 0, .slice none 0 0, .int .i64 0, .slice none 0 0] 37)).drew); with_reducible refine (CM.out _ hS.1).mono ?_; rintro e w2 ⟨⟨v, y, xs, rfl, hv, hm, hy⟩, b2⟩; have HM := Lib.hid hm; have HY := Lib.hid hy; have B2 := Lib.hid (hS.1.trans (b2.mono hS.1.size)); have hz : w2.heap[wa.heap.size]? = some (.cells zeroC 37 (0, 0)) := (b2.block wa.heap.size (by simp)).trans (zero_drew wa); have e0 := box_cell hz (j := 0) rfl; have e1 := box_cell hz (j := 1) rfl; have e2 := box_cell hz (j := 2) rfl; have e3 := box_cell hz (j := 3) rfl; have e4 := box_cell hz (j := 4) rfl; have e5 := box_cell hz (j := 5) rfl; have e6 := box_cell hz (j := 6) rfl; have e7 := box_cell hz (j := 7) rfl; have f0 := box_free hz 0; have f1 := box_free hz 1; have f2 := box_free hz 2; have f3 := box_free hz 3; have f4 := box_free hz 4; have f5 := box_free hz 5; have f6 := box_free hz 6; have f7 := box_free hz 7; obtain ⟨hQ, kQ⟩ := out8 hz (.int .i64 c.kind) (.slice v.a.A v.a.n v.a.c) (.slice v.b.A v.b.n v.b.c) (.slice v.c.A v.c.n v.c.c) (.slice v.d.A v.d.n v.d.c) (.slice v.e.A v.e.n v.e.c) (.int .i64 c.K) (.slice v.r.A v.r.n v.r.c); have HQ := Lib.hid hQ; have HKQ := Lib.hid kQ; have hS := HS.out _ B2.out; have hS9 := HS.out _ (B2.out.trans (kQ.below B2.out.size (Nat.le_refl _))))
      | (go_at_call 28; with_reducible refine (CM.out _ hS.1).mono ?_; rintro e w2 ⟨⟨v, y, xs, rfl, hv, hm, hy⟩, b2⟩; have HM := Lib.hid hm; have HY := Lib.hid hy; have B2 := Lib.hid (hS.1.trans (b2.mono hS.1.size)); have hS := HS.out _ B2.out))
  focus
      (obtain ⟨w3, hw3⟩ : ∃ w3, w2.alloc (.cells #[.int .i64 c.kind, .slice v.a.A v.a.n v.a.c, .slice v.b.A v.b.n v.b.c, .slice v.c.A v.c.n v.c.c, .slice v.d.A v.d.n v.d.c, .slice v.e.A v.e.n v.e.c, .int .i64 c.K, .slice v.r.A v.r.n v.r.c] 37) = w3 := ⟨_, rfl⟩
       rw [hw3]
       have b23 : Below w2.heap.size w2 w3 := hw3 ▸ below1 w2 _
       have HC3 : Hid (w3.heap[w2.heap.size]? = some (.cells (v.cells c.kind c.K) 37 (0, 0))) := Lib.hid (hw3 ▸ heap_new w2 _)
       have HCN := Lib.hid ((HM.out.kp (Kp.of_below (G := w.heap.size) b23) (by have h := HLT.out; show w.heap.size < wa.heap.size + 1 + 1 + 1 + 1 + 1; omega)).con HSL.out.1 HSL.out.2.1 HSL.out.2.2.1 HSL.out.2.2.2.1 HSL.out.2.2.2.2.1 HSL.out.2.2.2.2.2.1 HSL.out.2.2.2.2.2.2)
       have HRW := Lib.hid ((HY.out.below b23).rows (by rw [caseD_len]; omega) (fun r hr => by have := (caseD_dom DD 6 3 r hr).2; omega))
       have B3 := Lib.hid (B2.out.trans (b23.mono B2.out.size))
       obtain ⟨g, hg⟩ : ∃ g, g = w2.heap.size := ⟨_, rfl⟩
       rw [← hg] at HC3
       rw [← hg]
       clear hg hw3 b23 HM HY B2 HSL hS)
  rotate_left
  all_goals first
    | (obtain ⟨w3, hw3⟩ : ∃ w3, ((((((((w2.setCell ⟨wa.heap.size, 0, none⟩ (.int .i64 c.kind)).setCell ⟨wa.heap.size, 1, none⟩ (.slice v.a.A v.a.n v.a.c)).setCell ⟨wa.heap.size, 2, none⟩ (.slice v.b.A v.b.n v.b.c)).setCell ⟨wa.heap.size, 3, none⟩ (.slice v.c.A v.c.n v.c.c)).setCell ⟨wa.heap.size, 4, none⟩ (.slice v.d.A v.d.n v.d.c)).setCell ⟨wa.heap.size, 5, none⟩ (.slice v.e.A v.e.n v.e.c)).setCell ⟨wa.heap.size, 6, none⟩ (.int .i64 c.K)).setCell ⟨wa.heap.size, 7, none⟩ (.slice v.r.A v.r.n v.r.c)) = w3 := ⟨_, rfl⟩
       rw [hw3]
       have hQ3 := HQ.out
       have kQ3 := HKQ.out
       rw [hw3] at hQ3 kQ3
       have HC3 : Hid (w3.heap[wa.heap.size]? = some (.cells (v.cells c.kind c.K) 37 (0, 0))) := Lib.hid hQ3
       have HCN := Lib.hid ((HM.out.kp kQ3 (by simp; omega)).con HSL.out.1 HSL.out.2.1 HSL.out.2.2.1 HSL.out.2.2.2.1 HSL.out.2.2.2.2.1 HSL.out.2.2.2.2.2.1 HSL.out.2.2.2.2.2.2)
       have HRW := Lib.hid ((RowsO.kp HY.out kQ3 (by simp)).rows (by rw [caseD_len]; omega) (fun r hr => by have := (caseD_dom DD 6 3 r hr).2; omega))
       have B3 := Lib.hid (B2.out.trans (kQ3.below B2.out.size (Nat.le_refl _)))
       obtain ⟨g, hg⟩ : ∃ g, g = wa.heap.size := ⟨_, rfl⟩
       rw [← hg] at HC3
       rw [← hg]
       clear hg hw3 hQ3 kQ3 HQ HKQ HM HY B2 HSL hS hS9 e0 e1 e2 e3 e4 e5 e6 e7 f0 f1 f2 f3 f4 f5 f6 f7)
    | skip
  all_goals
    clear CM CK HS HNA HLT
    have HD := Lib.hid (caseD_dom DD 6 3)
    have HDL := Lib.hid (caseD_ofL DD 6 3)
    have HDN := Lib.hid (caseD_len DD 6 3)
    obtain ⟨D, hDD⟩ : ∃ D, D = caseD DD 6 3 := ⟨_, rfl⟩
    rw [← hDD] at HRW HD HDL HDN
    clear hDD
    have HD60 : Hid (∀ l ∈ D, DomL l ∧ l.length ≤ 60) := Lib.hid (fun l hl => ⟨(HD.out l hl).1, by have := (HD.out l hl).2; omega⟩)
    have BW := Lib.hid (HB0.out.trans (B3.out.mono HB0.out.size))
    have HS : Hid (∀ W, Below w3.heap.size w3 W → Below w3.heap.size w3 W ∧ W.cell? ⟨g, 0, none⟩ = some (.int .i64 c.kind) ∧ W.cell? ⟨g, 1, none⟩ = some (.slice v.a.A v.a.n v.a.c) ∧ W.cell? ⟨g, 2, none⟩ = some (.slice v.b.A v.b.n v.b.c) ∧ W.cell? ⟨g, 3, none⟩ = some (.slice v.c.A v.c.n v.c.c) ∧ W.cell? ⟨g, 4, none⟩ = some (.slice v.d.A v.d.n v.d.c) ∧ W.cell? ⟨g, 5, none⟩ = some (.slice v.e.A v.e.n v.e.c) ∧ W.cell? ⟨g, 6, none⟩ = some (.int .i64 c.K) ∧ W.cell? ⟨g, 7, none⟩ = some (.slice v.r.A v.r.n v.r.c)) := Lib.hid (fun W hW => by
      have h := (hW.block _ (Array.getElem?_eq_some_iff.1 HC3.out).1).trans HC3.out
      exact ⟨hW, box_cell h rfl, box_cell h rfl, box_cell h rfl, box_cell h rfl, box_cell h rfl, box_cell h rfl, box_cell h rfl, box_cell h rfl⟩)
    have CD : Hid (∀ W, Below w3.heap.size w3 W → Calls Tryz.prog 44 #[.slice y.A y.n y.c] W fun e w' => (∃ (y' : Sl), e = .returned (.slice y'.A y'.n y'.c) ∧ DomsIn w' y' D) ∧ Below W.heap.size W w') := Lib.hid (fun W hW => by
      refine (doms_any y D W (HRW.out.below hW) (by rw [HDN.out]; omega) (fun r hr => by have := (HD.out r hr).2; omega)).mono ?_
      rintro e w' ⟨⟨y', ds, rfl, h⟩, b⟩
      rw [HDL.out] at h
      exact ⟨⟨y', rfl, h.within (by rw [HDN.out]; omega)⟩, b⟩)
    have CF0 := Lib.hid (fun W y' (hW : Below w3.heap.size w3 W) (hd : DomsIn W y' D) => mul_any v c y' D W (HE.out.below (BW.out.trans (hW.mono BW.out.size))) (HT.out.below (BW.out.trans (hW.mono BW.out.size))) (HCN.out.below hW) hd)
    have CR0 := Lib.hid (fun W (hW : Below w3.heap.size w3 W) => refmul_few v c y D W (HCN.out.below hW) (HRW.out.below hW) HD60.out)
    have CW := Lib.hid (fun W (hW : Below w3.heap.size w3 W) => mulWakes_any W (HE.out.below (BW.out.trans (hW.mono BW.out.size))) (HT.out.below (BW.out.trans (hW.mono BW.out.size))))
    have HSM := Lib.hid (mulE_small (c := c) HD60.out)
    obtain ⟨bo, hbo⟩ : ∃ bo, bo = (mulE c D).isSome := ⟨_, rfl⟩
    obtain ⟨R, hR⟩ : ∃ R, R = (mulE c D).getD [] := ⟨_, rfl⟩
    rw [← hbo, ← hR] at CF0 CR0
    rw [← hR] at HSM
    clear hbo hR HC3
    go_upto_region 2 with fail
    have hS := HS.out w3.drew (Below.refl _ _).drew
    go_region_held3 (fun W => Below w3.heap.size w3 W ∧ W.cell? ⟨g, 0, none⟩ = some (.int .i64 c.kind) ∧ W.cell? ⟨g, 1, none⟩ = some (.slice v.a.A v.a.n v.a.c) ∧ W.cell? ⟨g, 2, none⟩ = some (.slice v.b.A v.b.n v.b.c) ∧ W.cell? ⟨g, 3, none⟩ = some (.slice v.c.A v.c.n v.c.c) ∧ W.cell? ⟨g, 4, none⟩ = some (.slice v.d.A v.d.n v.d.c) ∧ W.cell? ⟨g, 5, none⟩ = some (.slice v.e.A v.e.n v.e.c) ∧ W.cell? ⟨g, 6, none⟩ = some (.int .i64 c.K) ∧ W.cell? ⟨g, 7, none⟩ = some (.slice v.r.A v.r.n v.r.c)) (first | with_reducible assumption)
      (first
        | (go_at_call 44; with_reducible refine (CD.out _ hS.1).mono ?_; rintro e w6 ⟨⟨y6, rfl, h6⟩, b6⟩; have HD6 := Lib.hid h6; have hS := HS.out _ (hS.1.trans (b6.mono hS.1.size)))
        | (go_at_call 43; with_reducible refine (CF0.out _ y6 hS.1 HD6.out).mono ?_; rintro e w7 ⟨⟨y7, rfl, h7⟩, b7⟩; have HD7 := Lib.hid h7; have B7 := Lib.hid (hS.1.trans (b7.mono hS.1.size)); have hS := HS.out _ B7.out))
    clear CD CF0 HD HDL HDN hS
    obtain ⟨-, c0, c1, c2, c3, c4, c5, c6, c7⟩ := HS.out w7 B7.out
    have CRR := Lib.hid (CR0.out w7 B7.out)
    clear CR0 HS
    go_wp2_with fail
    refine CRR.out.mono ?_
    rintro e w8 ⟨⟨y8, rfl, h8⟩, b8⟩
    have HR8 := Lib.hid h8
    have HD8 := Lib.hid (HD7.out.below b8)
    have B8 := Lib.hid (B7.out.trans (b8.mono B7.out.size))
    clear CRR h8 b8 c0 c1 c2 c3 c4 c5 c6 c7 HD7 B7
    go_wp2_with fail
    refine (CW.out w8 B8.out).mono ?_
    rintro e w9 ⟨rfl, b9⟩
    have HR9 := Lib.hid (HR8.out.below b9)
    have HD9 := Lib.hid (HD8.out.below b9)
    have B9 := Lib.hid (B8.out.trans (b9.mono B8.out.size))
    have BE := Lib.hid (BW.out.trans (B9.out.mono BW.out.size))
    have CLs := Lib.hid (lists_any y7 R w9 HD9.out (HT.out.below BE.out) (by have := HSM.out.1; omega))
    have hbb : (bo == bo) = true := by simp
    clear b9 CW HR8 HD8 B8
    go_wp2_with fail
    refine CLs.out.mono ?_
    rintro e w10 ⟨⟨y10, xs10, rfl, h10⟩, b10⟩
    have B10 := Lib.hid (BE.out.trans (b10.mono BE.out.size))
    have HRa := Lib.hid (h10.rows (by have := HSM.out.1; omega) (fun r hr => by have := HSM.out.2 r hr; omega))
    have CQ := same2_any y10 y8 _ _ w10 HRa.out (HR9.out.below b10)
    rw [beq_self_eq_true] at CQ
    have CQ := Lib.hid CQ
    clear CLs h10 b10
    go_wp2_with fail
    refine CQ.out.mono ?_
    rintro e w11 ⟨rfl, b11⟩
    have BF := Lib.hid (B10.out.trans (b11.mono B10.out.size))
    clear b11 CQ
    go_wp2_with fail
    go_ret
    exact ⟨rfl, BF.out⟩
end Go.Proofs.YtcmdgjkoalophaaGreatDoor
