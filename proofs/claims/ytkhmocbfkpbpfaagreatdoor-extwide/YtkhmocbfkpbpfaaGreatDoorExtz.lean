/- The law ExtWide walked. Made by tools/genwide.py. -/
import Derived.Test.YtkhmocbfkpbpfaaGreatDoorExtw
import Derived.Test.YtkhmocbfkpbpfaaGreatDoorExtd
import Derived.Test.YtkhmocbfkpbpfaaGreatDoorExth0
namespace Go.Proofs.YtkhmocbfkpbpfaaGreatDoor
open Go.RowKit Go.Sort

set_option maxHeartbeats 8000000 in
set_option maxRecDepth 100000 in
theorem extWide_thr (n a0 a1 a2 s0 s1 s2 : Int) (w : World) (hn : 0 ≤ n ∧ n ≤ 255) (qa : ∀ z ∈ [a0, a1, a2], -32768 ≤ z ∧ z ≤ 32767) (qs : ∀ z ∈ [s0, s1, s2], -32768 ≤ z ∧ z ≤ 32767) (hE : EntIn w) (hT : TabZ w) (hk8 : extK n ≠ 8) :
    Calls Tryz.prog 7 #[.int .u8 n, .agg #[.int .i16 a0, .int .i16 a1, .int .i16 a2], .agg #[.int .i16 s0, .int .i16 s1, .int .i16 s2]] w fun e w' => e = .returned (.bool true) ∧ Below w.heap.size w w' := by
  obtain ⟨kd, hkd⟩ : ∃ kd, kd = extK n := ⟨_, rfl⟩
  have CK := Lib.hid (fun W => extKind_any n W hn)
  rw [← hkd] at CK hk8
  obtain ⟨wa, hwa⟩ : ∃ wa, w.alloc (.cells #[.int .i16 a0, .int .i16 a1, .int .i16 a2] 62) = wa := ⟨_, rfl⟩
  obtain ⟨w2, hw2⟩ : ∃ w2, wa.alloc (.cells #[.int .i16 s0, .int .i16 s1, .int .i16 s2] 62) = w2 := ⟨_, rfl⟩
  have hww : (w.alloc (.cells #[.int .i16 a0, .int .i16 a1, .int .i16 a2] 62)).alloc (.cells #[.int .i16 s0, .int .i16 s1, .int .i16 s2] 62) = w2 := by rw [hwa, hw2]
  have sa : wa.heap.size = w.heap.size + 1 := by rw [← hwa]; simp
  have ba : Below w.heap.size w wa := hwa ▸ below1 w _
  have bb : Below wa.heap.size wa w2 := hw2 ▸ below1 wa _
  have n1 : wa.heap[w.heap.size]? = some (.cells #[.int .i16 a0, .int .i16 a1, .int .i16 a2] 62 (0, 0)) := hwa ▸ heap_new w _
  have n2 : w2.heap[w.heap.size + 1]? = some (.cells #[.int .i16 s0, .int .i16 s1, .int .i16 s2] 62 (0, 0)) := by rw [← sa, ← hw2]; exact heap_new wa _
  have b2 : Below w.heap.size w w2 := ba.trans (bb.mono ba.size)
  have HN1 := Lib.hid ((bb.block _ (Array.getElem?_eq_some_iff.1 n1).1).trans n1)
  have HN2 := Lib.hid n2
  have HB2 := Lib.hid b2
  have HE := Lib.hid hE
  have HT := Lib.hid hT
  have HQA := Lib.hid qa
  have HQS := Lib.hid qs
  clear hwa hw2 sa ba bb n1 n2 b2 hE hT qa qs hn hkd
  go_enter Tryz.func7, Tryz.ntmps7
  go_upto_region 1 with fail
  clear hww
  go_wp2_with fail
  refine (CK.out w2).mono ?_
  rintro e w' ⟨rfl, rfl⟩
  clear CK
  obtain ⟨w3, hw3⟩ : ∃ w3, w2.alloc (.cells #[.int .i64 0, .int .i64 1, .int .i64 2] 3) = w3 := ⟨_, rfl⟩
  have i3 : IsInts w3 ⟨some ⟨w2.heap.size, 0, none⟩, 3, 3⟩ [0, 1, 2] := hw3 ▸ ints_made w2 [0, 1, 2] 3 rfl (by omega)
  have b3 : Below w2.heap.size w2 w3 := hw3 ▸ below1 w2 _
  obtain ⟨w4, hw4⟩ : ∃ w4, w3.alloc (.cells #[.int .i64 kd, .slice (some ⟨w2.heap.size, 0, none⟩) 3 3, .slice none 0 0, .slice none 0 0, .slice none 0 0, .slice none 0 0, .int .i64 0, .slice none 0 0] 32) = w4 := ⟨_, rfl⟩
  have n4 : w4.heap[w3.heap.size]? = some (.cells #[.int .i64 kd, .slice (some ⟨w2.heap.size, 0, none⟩) 3 3, .slice none 0 0, .slice none 0 0, .slice none 0 0, .slice none 0 0, .int .i64 0, .slice none 0 0] 32 (0, 0)) := hw4 ▸ heap_new w3 _
  have b4 : Below w3.heap.size w3 w4 := hw4 ▸ below1 w3 _
  have hge : w2.heap.size ≤ w3.heap.size := b3.size
  have hge4 : w2.heap.size ≤ w4.heap.size := Nat.le_trans hge b4.size
  have hlt4 : w3.heap.size < w4.heap.size := (Array.getElem?_eq_some_iff.1 n4).1
  have h24 : Below w2.heap.size w2 w4 := b3.trans (b4.mono b3.size)
  have HBP4 := Lib.hid (HB2.out.trans (h24.mono HB2.out.size))
  have HBQ4 := Lib.hid h24
  have HC4 : Hid (w4.heap[w3.heap.size]? = some (.cells ((vOf ⟨some ⟨w2.heap.size, 0, none⟩, 3, 3⟩).cells (cOf kd [0, 1, 2]).kind (cOf kd [0, 1, 2]).K) 32 (0, 0))) := Lib.hid n4
  have HCN4 : Hid (ConIn w4 (vOf ⟨some ⟨w2.heap.size, 0, none⟩, 3, 3⟩) (cOf kd [0, 1, 2])) := Lib.hid (con_of kd (i3.below b4))
  have HW4 := Lib.hid hw4
  have k8 : (kd == 8) = false := by rw [beq_eq_false_iff_ne]; exact hk8
  clear i3 b3 b4 n4 hge hge4 hlt4 h24 hw4 hk8
  go_upto_region 2 with fail
  clear hw3
  rw [HW4.out]
  clear HW4
  obtain ⟨wp, hwp⟩ : ∃ wp, wp = w4 := ⟨_, rfl⟩
  obtain ⟨g, hg⟩ : ∃ g, g = w3.heap.size := ⟨_, rfl⟩
  obtain ⟨c, hc⟩ : ∃ c, c = cOf kd [0, 1, 2] := ⟨_, rfl⟩
  obtain ⟨v, hv⟩ : ∃ v, v = vOf ⟨some ⟨w2.heap.size, 0, none⟩, 3, 3⟩ := ⟨_, rfl⟩
  rw [← hwp, ← hg, ← hc, ← hv] at HC4
  rw [← hwp, ← hc, ← hv] at HCN4
  rw [← hwp] at HBP4 HBQ4
  rw [← hwp, ← hg]
  have HCP := HC4
  have HCNP := HCN4
  have HBP0 := HBP4
  have HBQ0 := HBQ4
  have hck : c.kind = kd := by rw [hc]; rfl
  have hva : v.a = ⟨some ⟨w2.heap.size, 0, none⟩, 3, 3⟩ := by rw [hv]; rfl
  have d0 : wp.cell? ⟨g, 0, none⟩ = some (.int .i64 kd) := by rw [← hck]; exact box_cell HC4.out rfl
  have d1 : wp.cell? ⟨g, 1, none⟩ = some (.slice (some ⟨w2.heap.size, 0, none⟩) 3 3) := by have h := box_cell (j := 1) (x := .slice v.a.A v.a.n v.a.c) HC4.out rfl; rw [hva] at h; exact h
  clear hwp hg hc hv HC4 HCN4 HBP4 HBQ4 hck hva

  have HD : Hid (∀ l ∈ (List.range 3).map (wideF [a0, a1, a2] [s0, s1, s2]), DomL l ∧ l.length ≤ 200) := Lib.hid (wideF_dom 3 (by omega) HQA.out)
  obtain ⟨i0, hi, hz0, hz1, hz2⟩ := info_parts infoSl'
  have HI := Lib.hid (And.intro hi (And.intro hz0 (And.intro hz1 hz2)))
  clear hi hz0 hz1 hz2
  go_wp2_with fail
  go_loopw [8, 26] (fun l i wr => ∃ (k : Nat) (y : Sl) (xs : List Sl), l = .slice y.A y.n y.c ∧ i = .int .i64 (k : Nat) ∧ k ≤ 3 ∧ Hid (RowsO wp.heap.size wr y xs ((List.range k).map (wideF [a0, a1, a2] [s0, s1, s2]))) ∧ Hid (xs.length = k) ∧ Hid (Below wp.heap.size wp wr)) (fun _ i _ => 3 - (intOf i).toNat)
  case atStart => exact ⟨0, ⟨none, 0, 0⟩, [], rfl, rfl, by omega, Lib.hid (RowsO.nil _ _), Lib.hid rfl, Lib.hid (Below.refl _ _)⟩
  case round =>
    obtain ⟨k, y, xs, rfl, rfl, hk, HRO, HXL, HBR⟩ := hrel
    by_cases hlt : k < 3
    · have ha := HQA.out _ (wide_mem (show k < [a0, a1, a2].length by simp; omega))
      have hs := HQS.out _ (wide_mem (show k < [s0, s1, s2].length by simp; omega))
      have HBP := Lib.hid (HBQ0.out.trans (HBR.out.mono HBQ0.out.size))
      have c1 : wr.cell? ⟨w.heap.size, k, none⟩ = some (.int .i16 ([a0, a1, a2].getD k 0)) := wide_cell ((HBP.out.block _ (Array.getElem?_eq_some_iff.1 HN1.out).1).trans HN1.out) (by omega)
      have c2 : wr.cell? ⟨w.heap.size + 1, k, none⟩ = some (.int .i16 ([s0, s1, s2].getD k 0)) := wide_cell ((HBP.out.block _ (Array.getElem?_eq_some_iff.1 HN2.out).1).trans HN2.out) (by omega)
      have HWF : Hid (wideF [a0, a1, a2] [s0, s1, s2] k = rangeFrom ([a0, a1, a2].getD k 0) (1 + (max 0 ([s0, s1, s2].getD k 0) % 130).toNat)) := Lib.hid rfl
      have HT2 : Hid ((List.range (k + 1)).map (wideF [a0, a1, a2] [s0, s1, s2]) = (List.range k).map (wideF [a0, a1, a2] [s0, s1, s2]) ++ [wideF [a0, a1, a2] [s0, s1, s2] k]) := Lib.hid (by rw [List.range_succ, List.map_append]; rfl)
      rw [HWF.out] at HT2
      generalize [a0, a1, a2].getD k 0 = av at ha c1 HT2
      generalize [s0, s1, s2].getD k 0 = sv at hs c2 HT2
      obtain ⟨m, hm⟩ : ∃ m, max 0 sv = m := ⟨_, rfl⟩
      obtain ⟨r, hr⟩ : ∃ r : Nat, ((r : Nat) : Int) = m % 130 := ⟨(m % 130).toNat, by omega⟩
      have hr0 : (max 0 sv % 130).toNat = r := by rw [hm]; omega
      rw [hr0] at HT2
      have hmx : ∀ W : World, (Builtin.max_ #[24, 24] 24 #[.int .i16 0, .int .i16 sv]).run Tryz.prog W = .ok (.int .i16 m) W := fun W => by rw [← hm]; exact run_max2 W _ _ _ _ _
      have wav : IntKind.i64.wrap av = av := IntWalk.i64_in _ (by omega)
      have wm : IntKind.i64.wrap m = m := IntWalk.i64_in _ (by omega)
      have ht1 : m.tmod 130 = ((r : Nat) : Int) := by rw [Int.tmod_eq_emod_of_nonneg (by omega), hr]
      have ht2 : m % 130 = ((r : Nat) : Int) := hr.symm
      have wr1 : IntKind.i64.wrap ((r : Nat) : Int) = ((r : Nat) : Int) := IntWalk.i64_in _ (by omega)
      have wq : IntKind.i64.wrap (1 + ((r : Nat) : Int)) = ((1 + r : Nat) : Int) := by rw [IntWalk.i64_in _ (by omega)]; simp
      have CR := Lib.hid (fun W => rangeFrom_any av (1 + r) W (by omega) (by omega))
      obtain ⟨q, hq⟩ : ∃ q, q = 1 + r := ⟨_, rfl⟩
      rw [← hq] at wq CR HT2
      have c1d : wr.drew.cell? ⟨w.heap.size, k, none⟩ = some (.int .i16 av) := c1
      have c2d : wr.drew.cell? ⟨w.heap.size + 1, k, none⟩ = some (.int .i16 sv) := c2
      have e1 := cell_regrown c1d
      have e2 := cell_regrown c2d
      have hbk : k < 3 := by omega
      clear ha hs c1 c2 c1d c2d HWF hr0 hq hr hm
      go_upto_region 8 with fail
      refine wp_region_any (by kernel_rfl) ?_
      change wpAny _ _ _ _ _ _ _ wr.drew
      refine wpAny_take (i := 0) (v := ?_) rfl (by kernel_rfl) (by kernel_rfl) (by kernel_rfl) (fun _ _ _ h => h) (Or.inl ⟨by rfl, ?_⟩) ?_
      rotate_left
      · intro w; go_simp; first | done | with_reducible rfl
      refine wpAny_below_seq 1 12 _ #[true, true, true, true, true, true, true, true, true, true, true, true, false, false, false, false] (by kernel_rfl) (by kernel_rfl) ?_
      simp only [List.take_succ_cons, List.take_zero, List.drop_succ_cons, List.drop_zero]
      repeat (first | go_big_quiet_step (fail) | quiet_step (fail))
      refine wpQuiet_nil ?_
      intro _ hw'
      obtain ⟨⟨dq, osq⟩, hw''⟩ := hw'
      subst hw''
      have b5 := below_regrown wr.drew dq osq
      generalize grow (redrawn wr.drew dq) osq = w5 at *
      have bd : Below wr.heap.size wr w5 := ((Below.refl wr.heap.size wr).drew).trans b5
      have HRO5 := Lib.hid (HRO.out.below bd)
      have HB5 := Lib.hid (HBR.out.trans (bd.mono HBR.out.size))
      have CR5 := Lib.hid (CR.out w5)
      clear e1 e2 CR b5 bd HRO HBR hmx wav wm ht1 ht2 wr1 wq
      go_wp2_with fail
      refine CR5.out.mono ?_
      rintro e w6 ⟨⟨y6, rfl, h6⟩, b6⟩
      have HN6 : Hid (Row3 w6 wp.heap.size y6 (rangeFrom av q)) := Lib.hid (own_base h6 HB5.out.size)
      have HRO6 := Lib.hid (HRO5.out.below b6)
      have HB6 := Lib.hid (HB5.out.trans (b6.mono HB5.out.size))
      have K6 := below1 w6 (.cells #[.slice y6.A y6.n y6.c] 30)
      have HRO7 := Lib.hid (HRO6.out.below K6)
      have HN7 : Hid (Row3 (w6.alloc (.cells #[.slice y6.A y6.n y6.c] 30)) wp.heap.size y6 (rangeFrom av q)) := Lib.hid (own_keep' HN6.out fun g hg => K6.block g (own_lt' HN6.out hg).2)
      have HB7 := Lib.hid (HB6.out.trans (K6.mono HB6.out.size))
      have Z3 : Hid (xs.length + 1 ≤ maxLen) := Lib.hid (by have := HXL.out; unfold maxLen; omega)
      have Z4 : Hid ((xs.length + 1) * 24 ≤ 140737488355328) := Lib.hid (by have := HXL.out; omega)
      clear h6 b6 K6 CR5 HRO5 HB5 HRO6 HN6
      go_wp2_with (at_builtin; refine wpList_append_own _ rfl _ _ 27 rfl wp.heap.size 30 i0 (.slice none 0 0) 1 24 Tryz.underlying27 HI.out.1 HI.out.2.1 HI.out.2.2.1 HI.out.2.2.2 rfl (by decide) _ _ _ rfl HRO7.out.row ⟨_, 0, none⟩ 1 1 [.slice y6.A y6.n y6.c] rfl rfl ?c1 ?c2 Z3.out Z4.out HB7.out.size ?_)
      case c1 => intro j u hj; match j, hj with | 0, hj => simp at hj; subst hj; simp [Addr.add]
      case c2 => intro u hu; simp at hu; subst hu; rfl
      intro v' w7 hown' hgrow _
      obtain ⟨Y, kY, rfl⟩ := slice_row hown'
      have HO8 : Hid (RowsO wp.heap.size w7 ⟨Y, xs.length + 1, kY⟩ (xs ++ [y6]) ((List.range (k + 1)).map (wideF [a0, a1, a2] [s0, s1, s2]))) := Lib.hid (by
        rw [HT2.out]
        exact HRO7.out.step HN7.out hown' hgrow)
      have HB8 := Lib.hid (HB7.out.grown hgrow HB7.out.size (own_ge HRO7.out.row))
      have HK8 : Hid ((xs ++ [y6]).length = k + 1) := Lib.hid (by simp [HXL.out])
      clear hown' hgrow HRO7 HN7 HB7 HB6 HT2 Z3 Z4 HXL
      go_wp2_with fail
      go_roundw
      case rel => exact ⟨k + 1, ⟨Y, _, kY⟩, xs ++ [y6], rfl, by go_num, by omega, HO8, HK8, HB8⟩
      case measure => simp [intOf]; omega
    · obtain rfl : k = 3 := by omega
      have HC3 : Hid (wr.heap[g]? = some (.cells (v.cells c.kind c.K) 32 (0, 0))) := Lib.hid ((HBR.out.block _ (Array.getElem?_eq_some_iff.1 HCP.out).1).trans HCP.out)
      have HCN := Lib.hid (HCNP.out.below HBR.out)
      have HRW := Lib.hid (HRO.out.rows (by simp) (fun r hr => by have := (HD.out r hr).2; omega))
      have HDL : Hid (((List.range 3).map (wideF [a0, a1, a2] [s0, s1, s2])).map ofL = (List.range 3).map (wideF [a0, a1, a2] [s0, s1, s2])) := Lib.hid ((List.map_congr_left (fun l hl => ofL_dom (HD.out l hl).1)).trans (List.map_id' _))
      have HDN : Hid (((List.range 3).map (wideF [a0, a1, a2] [s0, s1, s2])).length = 3) := Lib.hid (by simp)
      obtain ⟨D, hDD⟩ : ∃ D, D = (List.range 3).map (wideF [a0, a1, a2] [s0, s1, s2]) := ⟨_, rfl⟩
      rw [← hDD] at HRW HD HDL HDN
      obtain ⟨w3, rfl⟩ : ∃ w3, w3 = wr := ⟨_, rfl⟩
      have HB0 := HBP0
      have B3 := HBR
      clear hDD HRO HXL HBR HCP HCNP HBP0 HBQ0 HN1 HN2 HQA HQS HI hlt hk
      have BW := Lib.hid (HB0.out.trans (B3.out.mono HB0.out.size))
      have HS : Hid (∀ W, Below w3.heap.size w3 W → Below w3.heap.size w3 W ∧ W.cell? ⟨g, 0, none⟩ = some (.int .i64 c.kind) ∧ W.cell? ⟨g, 1, none⟩ = some (.slice v.a.A v.a.n v.a.c) ∧ W.cell? ⟨g, 2, none⟩ = some (.slice v.b.A v.b.n v.b.c) ∧ W.cell? ⟨g, 3, none⟩ = some (.slice v.c.A v.c.n v.c.c) ∧ W.cell? ⟨g, 4, none⟩ = some (.slice v.d.A v.d.n v.d.c) ∧ W.cell? ⟨g, 5, none⟩ = some (.slice v.e.A v.e.n v.e.c) ∧ W.cell? ⟨g, 6, none⟩ = some (.int .i64 c.K) ∧ W.cell? ⟨g, 7, none⟩ = some (.slice v.r.A v.r.n v.r.c)) := Lib.hid (fun W hW => by
        have h := (hW.block _ (Array.getElem?_eq_some_iff.1 HC3.out).1).trans HC3.out
        exact ⟨hW, box_cell h rfl, box_cell h rfl, box_cell h rfl, box_cell h rfl, box_cell h rfl, box_cell h rfl, box_cell h rfl, box_cell h rfl⟩)
      have CD : Hid (∀ W, Below w3.heap.size w3 W → Calls Tryz.prog 18 #[.slice y.A y.n y.c] W fun e w' => (∃ (y' : Sl), e = .returned (.slice y'.A y'.n y'.c) ∧ DomsIn w' y' D) ∧ Below W.heap.size W w') := Lib.hid (fun W hW => by
        refine (doms_any y D W (HRW.out.below hW) (by rw [HDN.out]; omega) (fun r hr => by have := (HD.out r hr).2; omega)).mono ?_
        rintro e w' ⟨⟨y', ds, rfl, h⟩, b⟩
        rw [HDL.out] at h
        exact ⟨⟨y', rfl, h.within (by rw [HDN.out]; omega)⟩, b⟩)
      have CF0 := Lib.hid (fun W y' (hW : Below w3.heap.size w3 W) (hd : DomsIn W y' D) => ext_any v c y' D W (HE.out.below (BW.out.trans (hW.mono BW.out.size))) (HT.out.below (BW.out.trans (hW.mono BW.out.size))) (HCN.out.below hW) hd (fun l hl => by have := (HD.out l hl).2; omega))
      have CR0 := Lib.hid (fun W (hW : Below w3.heap.size w3 W) => refext_any v c y D W (HCN.out.below hW) (HRW.out.below hW) (fun l hl => ⟨(HD.out l hl).1, by have := (HD.out l hl).2; omega⟩))
      have CW := Lib.hid (fun W (hW : Below w3.heap.size w3 W) => extWakes_any W (HE.out.below (BW.out.trans (hW.mono BW.out.size))) (HT.out.below (BW.out.trans (hW.mono BW.out.size))))
      have HSM := Lib.hid (extE_sized (c := c) (fun l hl => (HD.out l hl).2))
      obtain ⟨bo, hbo⟩ : ∃ bo, bo = (extE c D).isSome := ⟨_, rfl⟩
      obtain ⟨R, hR⟩ : ∃ R, R = (extE c D).getD [] := ⟨_, rfl⟩
      rw [← hbo, ← hR] at CF0 CR0
      rw [← hR] at HSM
      clear hbo hR HC3
      go_upto_region 10 with fail
      have hS := HS.out w3.drew (Below.refl _ _).drew
      go_region_held3 (fun W => Below w3.heap.size w3 W ∧ W.cell? ⟨g, 0, none⟩ = some (.int .i64 c.kind) ∧ W.cell? ⟨g, 1, none⟩ = some (.slice v.a.A v.a.n v.a.c) ∧ W.cell? ⟨g, 2, none⟩ = some (.slice v.b.A v.b.n v.b.c) ∧ W.cell? ⟨g, 3, none⟩ = some (.slice v.c.A v.c.n v.c.c) ∧ W.cell? ⟨g, 4, none⟩ = some (.slice v.d.A v.d.n v.d.c) ∧ W.cell? ⟨g, 5, none⟩ = some (.slice v.e.A v.e.n v.e.c) ∧ W.cell? ⟨g, 6, none⟩ = some (.int .i64 c.K) ∧ W.cell? ⟨g, 7, none⟩ = some (.slice v.r.A v.r.n v.r.c)) (first | with_reducible assumption)
        (first
          | (go_at_call 18; with_reducible refine (CD.out _ hS.1).mono ?_; rintro e w6 ⟨⟨y6, rfl, h6⟩, b6⟩; have HD6 := Lib.hid h6; have hS := HS.out _ (hS.1.trans (b6.mono hS.1.size)))
          | (go_at_call 17; with_reducible refine (CF0.out _ y6 hS.1 HD6.out).mono ?_; rintro e w7 ⟨⟨y7, rfl, h7⟩, b7⟩; have HD7 := Lib.hid h7; have B7 := Lib.hid (hS.1.trans (b7.mono hS.1.size)); have hS := HS.out _ B7.out))
      clear CD CF0 HD HDL HDN hS
      obtain ⟨-, c0, c1, c2, c3, c4, c5, c6, c7⟩ := HS.out w7 B7.out
      have CRR := Lib.hid (CR0.out w7 B7.out)
      clear CR0 HS
      go_wp2_with fail
      refine CRR.out.mono ?_
      rintro e w8 ⟨⟨y8, rfl, h8⟩, b8⟩
      have HR8 := Lib.hid h8
      have HD8 := Lib.hid (HD7.out.below b8)
      have B8 := Lib.hid (B7.out.trans (b8.mono B7.out.size))
      clear CRR h8 b8 c0 c1 c2 c3 c4 c5 c6 c7 HD7 B7
      go_wp2_with fail
      refine (CW.out w8 B8.out).mono ?_
      rintro e w9 ⟨rfl, b9⟩
      have HR9 := Lib.hid (HR8.out.below b9)
      have HD9 := Lib.hid (HD8.out.below b9)
      have B9 := Lib.hid (B8.out.trans (b9.mono B8.out.size))
      have BE := Lib.hid (BW.out.trans (B9.out.mono BW.out.size))
      have CLs := Lib.hid (lists_any y7 R w9 HD9.out (HT.out.below BE.out) (by have := HSM.out.1; omega))
      have hbb : (bo == bo) = true := by simp
      clear b9 CW HR8 HD8 B8
      go_wp2_with fail
      refine CLs.out.mono ?_
      rintro e w10 ⟨⟨y10, xs10, rfl, h10⟩, b10⟩
      have B10 := Lib.hid (BE.out.trans (b10.mono BE.out.size))
      have HRa := Lib.hid (h10.rows (by have := HSM.out.1; omega) (fun r hr => by have := HSM.out.2 r hr; omega))
      have CQ := same2_any y10 y8 _ _ w10 HRa.out (HR9.out.below b10)
      rw [beq_self_eq_true] at CQ
      have CQ := Lib.hid CQ
      clear CLs h10 b10
      go_wp2_with fail
      refine CQ.out.mono ?_
      rintro e w11 ⟨rfl, b11⟩
      have BF := Lib.hid (B10.out.trans (b11.mono B10.out.size))
      clear b11 CQ
      go_wp2_with fail
      go_ret
      exact ⟨rfl, BF.out⟩

set_option maxHeartbeats 8000000 in
set_option maxRecDepth 100000 in
theorem extWide_two (n a0 a1 a2 s0 s1 s2 : Int) (w : World) (hn : 0 ≤ n ∧ n ≤ 255) (qa : ∀ z ∈ [a0, a1, a2], -32768 ≤ z ∧ z ≤ 32767) (qs : ∀ z ∈ [s0, s1, s2], -32768 ≤ z ∧ z ≤ 32767) (hE : EntIn w) (hT : TabZ w) (hk8 : extK n = 8) :
    Calls Tryz.prog 7 #[.int .u8 n, .agg #[.int .i16 a0, .int .i16 a1, .int .i16 a2], .agg #[.int .i16 s0, .int .i16 s1, .int .i16 s2]] w fun e w' => e = .returned (.bool true) ∧ Below w.heap.size w w' := by
  obtain ⟨kd, hkd⟩ : ∃ kd, kd = extK n := ⟨_, rfl⟩
  have CK := Lib.hid (fun W => extKind_any n W hn)
  rw [← hkd] at CK hk8
  obtain ⟨wa, hwa⟩ : ∃ wa, w.alloc (.cells #[.int .i16 a0, .int .i16 a1, .int .i16 a2] 62) = wa := ⟨_, rfl⟩
  obtain ⟨w2, hw2⟩ : ∃ w2, wa.alloc (.cells #[.int .i16 s0, .int .i16 s1, .int .i16 s2] 62) = w2 := ⟨_, rfl⟩
  have hww : (w.alloc (.cells #[.int .i16 a0, .int .i16 a1, .int .i16 a2] 62)).alloc (.cells #[.int .i16 s0, .int .i16 s1, .int .i16 s2] 62) = w2 := by rw [hwa, hw2]
  have sa : wa.heap.size = w.heap.size + 1 := by rw [← hwa]; simp
  have ba : Below w.heap.size w wa := hwa ▸ below1 w _
  have bb : Below wa.heap.size wa w2 := hw2 ▸ below1 wa _
  have n1 : wa.heap[w.heap.size]? = some (.cells #[.int .i16 a0, .int .i16 a1, .int .i16 a2] 62 (0, 0)) := hwa ▸ heap_new w _
  have n2 : w2.heap[w.heap.size + 1]? = some (.cells #[.int .i16 s0, .int .i16 s1, .int .i16 s2] 62 (0, 0)) := by rw [← sa, ← hw2]; exact heap_new wa _
  have b2 : Below w.heap.size w w2 := ba.trans (bb.mono ba.size)
  have HN1 := Lib.hid ((bb.block _ (Array.getElem?_eq_some_iff.1 n1).1).trans n1)
  have HN2 := Lib.hid n2
  have HB2 := Lib.hid b2
  have HE := Lib.hid hE
  have HT := Lib.hid hT
  have HQA := Lib.hid qa
  have HQS := Lib.hid qs
  clear hwa hw2 sa ba bb n1 n2 b2 hE hT qa qs hn hkd
  go_enter Tryz.func7, Tryz.ntmps7
  go_upto_region 1 with fail
  clear hww
  go_wp2_with fail
  refine (CK.out w2).mono ?_
  rintro e w' ⟨rfl, rfl⟩
  clear CK
  obtain ⟨w3, hw3⟩ : ∃ w3, w2.alloc (.cells #[.int .i64 0, .int .i64 1, .int .i64 2] 3) = w3 := ⟨_, rfl⟩
  have i3 : IsInts w3 ⟨some ⟨w2.heap.size, 0, none⟩, 3, 3⟩ [0, 1, 2] := hw3 ▸ ints_made w2 [0, 1, 2] 3 rfl (by omega)
  have b3 : Below w2.heap.size w2 w3 := hw3 ▸ below1 w2 _
  obtain ⟨w4, hw4⟩ : ∃ w4, w3.alloc (.cells #[.int .i64 kd, .slice (some ⟨w2.heap.size, 0, none⟩) 3 3, .slice none 0 0, .slice none 0 0, .slice none 0 0, .slice none 0 0, .int .i64 0, .slice none 0 0] 32) = w4 := ⟨_, rfl⟩
  have n4 : w4.heap[w3.heap.size]? = some (.cells #[.int .i64 kd, .slice (some ⟨w2.heap.size, 0, none⟩) 3 3, .slice none 0 0, .slice none 0 0, .slice none 0 0, .slice none 0 0, .int .i64 0, .slice none 0 0] 32 (0, 0)) := hw4 ▸ heap_new w3 _
  have b4 : Below w3.heap.size w3 w4 := hw4 ▸ below1 w3 _
  have hge : w2.heap.size ≤ w3.heap.size := b3.size
  have hge4 : w2.heap.size ≤ w4.heap.size := Nat.le_trans hge b4.size
  have hlt4 : w3.heap.size < w4.heap.size := (Array.getElem?_eq_some_iff.1 n4).1
  have h24 : Below w2.heap.size w2 w4 := b3.trans (b4.mono b3.size)
  have k8 : (kd == 8) = true := by rw [hk8]; rfl
  obtain ⟨g, hg⟩ : ∃ g, g = w3.heap.size := ⟨_, rfl⟩
  obtain ⟨w5, hw5⟩ : ∃ w5, w4.alloc (.cells #[.int .i64 0, .int .i64 1] 3) = w5 := ⟨_, rfl⟩
  have r5 : Row3 w5 w4.heap.size ⟨some ⟨w4.heap.size, 0, none⟩, 2, 2⟩ [0, 1] := hw5 ▸ World.ownsRow_lit (base := w4.heap.size) (e := 3) (size := 1) w4 #[.int .i64 0, .int .i64 1] 2 (Nat.le_refl _) (by decide) rfl
  have b5 : Below w4.heap.size w4 w5 := hw5 ▸ below1 w4 _
  have n5 := (b5.block _ hlt4).trans n4
  rw [← hg] at n5 hlt4
  obtain ⟨w6, hw6⟩ : ∃ w6, w5.setCell ⟨g, 1, none⟩ (.slice (some ⟨w4.heap.size, 0, none⟩) 2 2) = w6 := ⟨_, rfl⟩
  have n6 : w6.heap[g]? = some (.cells #[.int .i64 kd, .slice (some ⟨w4.heap.size, 0, none⟩) 2 2, .slice none 0 0, .slice none 0 0, .slice none 0 0, .slice none 0 0, .int .i64 0, .slice none 0 0] 32 (0, 0)) := hw6 ▸ heap_setCell_same w5 g 1 _ _ _ n5
  have r6 : Row3 w6 w4.heap.size ⟨some ⟨w4.heap.size, 0, none⟩, 2, 2⟩ [0, 1] := hw6 ▸ own_keep' r5 (fun q hq => Below.heap_setCell _ _ _ _ (by have := (own_lt' r5 hq).1; simp only; omega))
  have h26 : Below w2.heap.size w2 w6 := hw6 ▸ (h24.trans (b5.mono hge4)).setCell (p := ⟨g, 1, none⟩) (by simp only; omega) _
  have f0 := box_cell n4 (j := 0) (x := .int .i64 kd) rfl
  have f4 := box_cell n5 (j := 1) (x := .slice (some ⟨w2.heap.size, 0, none⟩) 3 3) rfl
  have f5 := box_free n5 1
  rw [← hg] at f0
  have HBP4 := Lib.hid (HB2.out.trans (h26.mono HB2.out.size))
  have HBQ4 := Lib.hid h26
  have HC4 : Hid (w6.heap[g]? = some (.cells ((vOf ⟨some ⟨w4.heap.size, 0, none⟩, 2, 2⟩).cells (cOf kd [0, 1]).kind (cOf kd [0, 1]).K) 32 (0, 0))) := Lib.hid n6
  have HCN4 : Hid (ConIn w6 (vOf ⟨some ⟨w4.heap.size, 0, none⟩, 2, 2⟩) (cOf kd [0, 1])) := Lib.hid (con_of kd (ints_own r6 (by simp)))
  have HW4 := Lib.hid hw4
  have HW6 := Lib.hid hw6
  have d0 := box_cell n6 (j := 0) (x := .int .i64 kd) rfl
  have d1 := box_cell n6 (j := 1) (x := .slice (some ⟨w4.heap.size, 0, none⟩) 2 2) rfl
  clear i3 b3 b4 n4 hge hge4 hlt4 h24 hw4 r5 b5 n5 hw6 n6 r6 h26 hk8
  go_upto_region 2 with fail
  clear hw3
  rw [HW4.out, ← hg]
  clear HW4 hg
  go_upto_region 4 with fail
  clear hw5
  rw [HW6.out]
  clear HW6 f0 f4 f5 k8
  obtain ⟨wp, hwp⟩ : ∃ wp, wp = w6 := ⟨_, rfl⟩
  obtain ⟨c, hc⟩ : ∃ c, c = cOf kd [0, 1] := ⟨_, rfl⟩
  obtain ⟨v, hv⟩ : ∃ v, v = vOf ⟨some ⟨w4.heap.size, 0, none⟩, 2, 2⟩ := ⟨_, rfl⟩
  rw [← hwp, ← hc, ← hv] at HC4
  rw [← hwp, ← hc, ← hv] at HCN4
  rw [← hwp] at HBP4 HBQ4 d0 d1
  rw [← hwp]
  have HCP := HC4
  have HCNP := HCN4
  have HBP0 := HBP4
  have HBQ0 := HBQ4
  clear hwp hc hv HC4 HCN4 HBP4 HBQ4

  have HD : Hid (∀ l ∈ (List.range 2).map (wideF [a0, a1, a2] [s0, s1, s2]), DomL l ∧ l.length ≤ 200) := Lib.hid (wideF_dom 2 (by omega) HQA.out)
  obtain ⟨i0, hi, hz0, hz1, hz2⟩ := info_parts infoSl'
  have HI := Lib.hid (And.intro hi (And.intro hz0 (And.intro hz1 hz2)))
  clear hi hz0 hz1 hz2
  go_wp2_with fail
  go_loopw [8, 26] (fun l i wr => ∃ (k : Nat) (y : Sl) (xs : List Sl), l = .slice y.A y.n y.c ∧ i = .int .i64 (k : Nat) ∧ k ≤ 2 ∧ Hid (RowsO wp.heap.size wr y xs ((List.range k).map (wideF [a0, a1, a2] [s0, s1, s2]))) ∧ Hid (xs.length = k) ∧ Hid (Below wp.heap.size wp wr)) (fun _ i _ => 2 - (intOf i).toNat)
  case atStart => exact ⟨0, ⟨none, 0, 0⟩, [], rfl, rfl, by omega, Lib.hid (RowsO.nil _ _), Lib.hid rfl, Lib.hid (Below.refl _ _)⟩
  case round =>
    obtain ⟨k, y, xs, rfl, rfl, hk, HRO, HXL, HBR⟩ := hrel
    by_cases hlt : k < 2
    · have ha := HQA.out _ (wide_mem (show k < [a0, a1, a2].length by simp; omega))
      have hs := HQS.out _ (wide_mem (show k < [s0, s1, s2].length by simp; omega))
      have HBP := Lib.hid (HBQ0.out.trans (HBR.out.mono HBQ0.out.size))
      have c1 : wr.cell? ⟨w.heap.size, k, none⟩ = some (.int .i16 ([a0, a1, a2].getD k 0)) := wide_cell ((HBP.out.block _ (Array.getElem?_eq_some_iff.1 HN1.out).1).trans HN1.out) (by omega)
      have c2 : wr.cell? ⟨w.heap.size + 1, k, none⟩ = some (.int .i16 ([s0, s1, s2].getD k 0)) := wide_cell ((HBP.out.block _ (Array.getElem?_eq_some_iff.1 HN2.out).1).trans HN2.out) (by omega)
      have HWF : Hid (wideF [a0, a1, a2] [s0, s1, s2] k = rangeFrom ([a0, a1, a2].getD k 0) (1 + (max 0 ([s0, s1, s2].getD k 0) % 130).toNat)) := Lib.hid rfl
      have HT2 : Hid ((List.range (k + 1)).map (wideF [a0, a1, a2] [s0, s1, s2]) = (List.range k).map (wideF [a0, a1, a2] [s0, s1, s2]) ++ [wideF [a0, a1, a2] [s0, s1, s2] k]) := Lib.hid (by rw [List.range_succ, List.map_append]; rfl)
      rw [HWF.out] at HT2
      generalize [a0, a1, a2].getD k 0 = av at ha c1 HT2
      generalize [s0, s1, s2].getD k 0 = sv at hs c2 HT2
      obtain ⟨m, hm⟩ : ∃ m, max 0 sv = m := ⟨_, rfl⟩
      obtain ⟨r, hr⟩ : ∃ r : Nat, ((r : Nat) : Int) = m % 130 := ⟨(m % 130).toNat, by omega⟩
      have hr0 : (max 0 sv % 130).toNat = r := by rw [hm]; omega
      rw [hr0] at HT2
      have hmx : ∀ W : World, (Builtin.max_ #[24, 24] 24 #[.int .i16 0, .int .i16 sv]).run Tryz.prog W = .ok (.int .i16 m) W := fun W => by rw [← hm]; exact run_max2 W _ _ _ _ _
      have wav : IntKind.i64.wrap av = av := IntWalk.i64_in _ (by omega)
      have wm : IntKind.i64.wrap m = m := IntWalk.i64_in _ (by omega)
      have ht1 : m.tmod 130 = ((r : Nat) : Int) := by rw [Int.tmod_eq_emod_of_nonneg (by omega), hr]
      have ht2 : m % 130 = ((r : Nat) : Int) := hr.symm
      have wr1 : IntKind.i64.wrap ((r : Nat) : Int) = ((r : Nat) : Int) := IntWalk.i64_in _ (by omega)
      have wq : IntKind.i64.wrap (1 + ((r : Nat) : Int)) = ((1 + r : Nat) : Int) := by rw [IntWalk.i64_in _ (by omega)]; simp
      have CR := Lib.hid (fun W => rangeFrom_any av (1 + r) W (by omega) (by omega))
      obtain ⟨q, hq⟩ : ∃ q, q = 1 + r := ⟨_, rfl⟩
      rw [← hq] at wq CR HT2
      have c1d : wr.drew.cell? ⟨w.heap.size, k, none⟩ = some (.int .i16 av) := c1
      have c2d : wr.drew.cell? ⟨w.heap.size + 1, k, none⟩ = some (.int .i16 sv) := c2
      have e1 := cell_regrown c1d
      have e2 := cell_regrown c2d
      have hbk : k < 3 := by omega
      clear ha hs c1 c2 c1d c2d HWF hr0 hq hr hm
      go_upto_region 8 with fail
      refine wp_region_any (by kernel_rfl) ?_
      change wpAny _ _ _ _ _ _ _ wr.drew
      refine wpAny_take (i := 0) (v := ?_) rfl (by kernel_rfl) (by kernel_rfl) (by kernel_rfl) (fun _ _ _ h => h) (Or.inl ⟨by rfl, ?_⟩) ?_
      rotate_left
      · intro w; go_simp; first | done | with_reducible rfl
      refine wpAny_below_seq 1 12 _ #[true, true, true, true, true, true, true, true, true, true, true, true, false, false, false, false] (by kernel_rfl) (by kernel_rfl) ?_
      simp only [List.take_succ_cons, List.take_zero, List.drop_succ_cons, List.drop_zero]
      repeat (first | go_big_quiet_step (fail) | quiet_step (fail))
      refine wpQuiet_nil ?_
      intro _ hw'
      obtain ⟨⟨dq, osq⟩, hw''⟩ := hw'
      subst hw''
      have b5 := below_regrown wr.drew dq osq
      generalize grow (redrawn wr.drew dq) osq = w5 at *
      have bd : Below wr.heap.size wr w5 := ((Below.refl wr.heap.size wr).drew).trans b5
      have HRO5 := Lib.hid (HRO.out.below bd)
      have HB5 := Lib.hid (HBR.out.trans (bd.mono HBR.out.size))
      have CR5 := Lib.hid (CR.out w5)
      clear e1 e2 CR b5 bd HRO HBR hmx wav wm ht1 ht2 wr1 wq
      go_wp2_with fail
      refine CR5.out.mono ?_
      rintro e w6 ⟨⟨y6, rfl, h6⟩, b6⟩
      have HN6 : Hid (Row3 w6 wp.heap.size y6 (rangeFrom av q)) := Lib.hid (own_base h6 HB5.out.size)
      have HRO6 := Lib.hid (HRO5.out.below b6)
      have HB6 := Lib.hid (HB5.out.trans (b6.mono HB5.out.size))
      have K6 := below1 w6 (.cells #[.slice y6.A y6.n y6.c] 30)
      have HRO7 := Lib.hid (HRO6.out.below K6)
      have HN7 : Hid (Row3 (w6.alloc (.cells #[.slice y6.A y6.n y6.c] 30)) wp.heap.size y6 (rangeFrom av q)) := Lib.hid (own_keep' HN6.out fun g hg => K6.block g (own_lt' HN6.out hg).2)
      have HB7 := Lib.hid (HB6.out.trans (K6.mono HB6.out.size))
      have Z3 : Hid (xs.length + 1 ≤ maxLen) := Lib.hid (by have := HXL.out; unfold maxLen; omega)
      have Z4 : Hid ((xs.length + 1) * 24 ≤ 140737488355328) := Lib.hid (by have := HXL.out; omega)
      clear h6 b6 K6 CR5 HRO5 HB5 HRO6 HN6
      go_wp2_with (at_builtin; refine wpList_append_own _ rfl _ _ 27 rfl wp.heap.size 30 i0 (.slice none 0 0) 1 24 Tryz.underlying27 HI.out.1 HI.out.2.1 HI.out.2.2.1 HI.out.2.2.2 rfl (by decide) _ _ _ rfl HRO7.out.row ⟨_, 0, none⟩ 1 1 [.slice y6.A y6.n y6.c] rfl rfl ?c1 ?c2 Z3.out Z4.out HB7.out.size ?_)
      case c1 => intro j u hj; match j, hj with | 0, hj => simp at hj; subst hj; simp [Addr.add]
      case c2 => intro u hu; simp at hu; subst hu; rfl
      intro v' w7 hown' hgrow _
      obtain ⟨Y, kY, rfl⟩ := slice_row hown'
      have HO8 : Hid (RowsO wp.heap.size w7 ⟨Y, xs.length + 1, kY⟩ (xs ++ [y6]) ((List.range (k + 1)).map (wideF [a0, a1, a2] [s0, s1, s2]))) := Lib.hid (by
        rw [HT2.out]
        exact HRO7.out.step HN7.out hown' hgrow)
      have HB8 := Lib.hid (HB7.out.grown hgrow HB7.out.size (own_ge HRO7.out.row))
      have HK8 : Hid ((xs ++ [y6]).length = k + 1) := Lib.hid (by simp [HXL.out])
      clear hown' hgrow HRO7 HN7 HB7 HB6 HT2 Z3 Z4 HXL
      go_wp2_with fail
      go_roundw
      case rel => exact ⟨k + 1, ⟨Y, _, kY⟩, xs ++ [y6], rfl, by go_num, by omega, HO8, HK8, HB8⟩
      case measure => simp [intOf]; omega
    · obtain rfl : k = 2 := by omega
      have HC3 : Hid (wr.heap[g]? = some (.cells (v.cells c.kind c.K) 32 (0, 0))) := Lib.hid ((HBR.out.block _ (Array.getElem?_eq_some_iff.1 HCP.out).1).trans HCP.out)
      have HCN := Lib.hid (HCNP.out.below HBR.out)
      have HRW := Lib.hid (HRO.out.rows (by simp) (fun r hr => by have := (HD.out r hr).2; omega))
      have HDL : Hid (((List.range 2).map (wideF [a0, a1, a2] [s0, s1, s2])).map ofL = (List.range 2).map (wideF [a0, a1, a2] [s0, s1, s2])) := Lib.hid ((List.map_congr_left (fun l hl => ofL_dom (HD.out l hl).1)).trans (List.map_id' _))
      have HDN : Hid (((List.range 2).map (wideF [a0, a1, a2] [s0, s1, s2])).length = 2) := Lib.hid (by simp)
      obtain ⟨D, hDD⟩ : ∃ D, D = (List.range 2).map (wideF [a0, a1, a2] [s0, s1, s2]) := ⟨_, rfl⟩
      rw [← hDD] at HRW HD HDL HDN
      obtain ⟨w3, rfl⟩ : ∃ w3, w3 = wr := ⟨_, rfl⟩
      have HB0 := HBP0
      have B3 := HBR
      clear hDD HRO HXL HBR HCP HCNP HBP0 HBQ0 HN1 HN2 HQA HQS HI hlt hk
      have BW := Lib.hid (HB0.out.trans (B3.out.mono HB0.out.size))
      have HS : Hid (∀ W, Below w3.heap.size w3 W → Below w3.heap.size w3 W ∧ W.cell? ⟨g, 0, none⟩ = some (.int .i64 c.kind) ∧ W.cell? ⟨g, 1, none⟩ = some (.slice v.a.A v.a.n v.a.c) ∧ W.cell? ⟨g, 2, none⟩ = some (.slice v.b.A v.b.n v.b.c) ∧ W.cell? ⟨g, 3, none⟩ = some (.slice v.c.A v.c.n v.c.c) ∧ W.cell? ⟨g, 4, none⟩ = some (.slice v.d.A v.d.n v.d.c) ∧ W.cell? ⟨g, 5, none⟩ = some (.slice v.e.A v.e.n v.e.c) ∧ W.cell? ⟨g, 6, none⟩ = some (.int .i64 c.K) ∧ W.cell? ⟨g, 7, none⟩ = some (.slice v.r.A v.r.n v.r.c)) := Lib.hid (fun W hW => by
        have h := (hW.block _ (Array.getElem?_eq_some_iff.1 HC3.out).1).trans HC3.out
        exact ⟨hW, box_cell h rfl, box_cell h rfl, box_cell h rfl, box_cell h rfl, box_cell h rfl, box_cell h rfl, box_cell h rfl, box_cell h rfl⟩)
      have CD : Hid (∀ W, Below w3.heap.size w3 W → Calls Tryz.prog 18 #[.slice y.A y.n y.c] W fun e w' => (∃ (y' : Sl), e = .returned (.slice y'.A y'.n y'.c) ∧ DomsIn w' y' D) ∧ Below W.heap.size W w') := Lib.hid (fun W hW => by
        refine (doms_any y D W (HRW.out.below hW) (by rw [HDN.out]; omega) (fun r hr => by have := (HD.out r hr).2; omega)).mono ?_
        rintro e w' ⟨⟨y', ds, rfl, h⟩, b⟩
        rw [HDL.out] at h
        exact ⟨⟨y', rfl, h.within (by rw [HDN.out]; omega)⟩, b⟩)
      have CF0 := Lib.hid (fun W y' (hW : Below w3.heap.size w3 W) (hd : DomsIn W y' D) => ext_any v c y' D W (HE.out.below (BW.out.trans (hW.mono BW.out.size))) (HT.out.below (BW.out.trans (hW.mono BW.out.size))) (HCN.out.below hW) hd (fun l hl => by have := (HD.out l hl).2; omega))
      have CR0 := Lib.hid (fun W (hW : Below w3.heap.size w3 W) => refext_any v c y D W (HCN.out.below hW) (HRW.out.below hW) (fun l hl => ⟨(HD.out l hl).1, by have := (HD.out l hl).2; omega⟩))
      have CW := Lib.hid (fun W (hW : Below w3.heap.size w3 W) => extWakes_any W (HE.out.below (BW.out.trans (hW.mono BW.out.size))) (HT.out.below (BW.out.trans (hW.mono BW.out.size))))
      have HSM := Lib.hid (extE_sized (c := c) (fun l hl => (HD.out l hl).2))
      obtain ⟨bo, hbo⟩ : ∃ bo, bo = (extE c D).isSome := ⟨_, rfl⟩
      obtain ⟨R, hR⟩ : ∃ R, R = (extE c D).getD [] := ⟨_, rfl⟩
      rw [← hbo, ← hR] at CF0 CR0
      rw [← hR] at HSM
      clear hbo hR HC3
      go_upto_region 10 with fail
      have hS := HS.out w3.drew (Below.refl _ _).drew
      go_region_held3 (fun W => Below w3.heap.size w3 W ∧ W.cell? ⟨g, 0, none⟩ = some (.int .i64 c.kind) ∧ W.cell? ⟨g, 1, none⟩ = some (.slice v.a.A v.a.n v.a.c) ∧ W.cell? ⟨g, 2, none⟩ = some (.slice v.b.A v.b.n v.b.c) ∧ W.cell? ⟨g, 3, none⟩ = some (.slice v.c.A v.c.n v.c.c) ∧ W.cell? ⟨g, 4, none⟩ = some (.slice v.d.A v.d.n v.d.c) ∧ W.cell? ⟨g, 5, none⟩ = some (.slice v.e.A v.e.n v.e.c) ∧ W.cell? ⟨g, 6, none⟩ = some (.int .i64 c.K) ∧ W.cell? ⟨g, 7, none⟩ = some (.slice v.r.A v.r.n v.r.c)) (first | with_reducible assumption)
        (first
          | (go_at_call 18; with_reducible refine (CD.out _ hS.1).mono ?_; rintro e w6 ⟨⟨y6, rfl, h6⟩, b6⟩; have HD6 := Lib.hid h6; have hS := HS.out _ (hS.1.trans (b6.mono hS.1.size)))
          | (go_at_call 17; with_reducible refine (CF0.out _ y6 hS.1 HD6.out).mono ?_; rintro e w7 ⟨⟨y7, rfl, h7⟩, b7⟩; have HD7 := Lib.hid h7; have B7 := Lib.hid (hS.1.trans (b7.mono hS.1.size)); have hS := HS.out _ B7.out))
      clear CD CF0 HD HDL HDN hS
      obtain ⟨-, c0, c1, c2, c3, c4, c5, c6, c7⟩ := HS.out w7 B7.out
      have CRR := Lib.hid (CR0.out w7 B7.out)
      clear CR0 HS
      go_wp2_with fail
      refine CRR.out.mono ?_
      rintro e w8 ⟨⟨y8, rfl, h8⟩, b8⟩
      have HR8 := Lib.hid h8
      have HD8 := Lib.hid (HD7.out.below b8)
      have B8 := Lib.hid (B7.out.trans (b8.mono B7.out.size))
      clear CRR h8 b8 c0 c1 c2 c3 c4 c5 c6 c7 HD7 B7
      go_wp2_with fail
      refine (CW.out w8 B8.out).mono ?_
      rintro e w9 ⟨rfl, b9⟩
      have HR9 := Lib.hid (HR8.out.below b9)
      have HD9 := Lib.hid (HD8.out.below b9)
      have B9 := Lib.hid (B8.out.trans (b9.mono B8.out.size))
      have BE := Lib.hid (BW.out.trans (B9.out.mono BW.out.size))
      have CLs := Lib.hid (lists_any y7 R w9 HD9.out (HT.out.below BE.out) (by have := HSM.out.1; omega))
      have hbb : (bo == bo) = true := by simp
      clear b9 CW HR8 HD8 B8
      go_wp2_with fail
      refine CLs.out.mono ?_
      rintro e w10 ⟨⟨y10, xs10, rfl, h10⟩, b10⟩
      have B10 := Lib.hid (BE.out.trans (b10.mono BE.out.size))
      have HRa := Lib.hid (h10.rows (by have := HSM.out.1; omega) (fun r hr => by have := HSM.out.2 r hr; omega))
      have CQ := same2_any y10 y8 _ _ w10 HRa.out (HR9.out.below b10)
      rw [beq_self_eq_true] at CQ
      have CQ := Lib.hid CQ
      clear CLs h10 b10
      go_wp2_with fail
      refine CQ.out.mono ?_
      rintro e w11 ⟨rfl, b11⟩
      have BF := Lib.hid (B10.out.trans (b11.mono B10.out.size))
      clear b11 CQ
      go_wp2_with fail
      go_ret
      exact ⟨rfl, BF.out⟩

theorem extWide_walk (n a0 a1 a2 s0 s1 s2 : Int) (w : World) (hn : 0 ≤ n ∧ n ≤ 255) (qa : ∀ z ∈ [a0, a1, a2], -32768 ≤ z ∧ z ≤ 32767) (qs : ∀ z ∈ [s0, s1, s2], -32768 ≤ z ∧ z ≤ 32767) (hE : EntIn w) (hT : TabZ w) :
    Calls Tryz.prog 7 #[.int .u8 n, .agg #[.int .i16 a0, .int .i16 a1, .int .i16 a2], .agg #[.int .i16 s0, .int .i16 s1, .int .i16 s2]] w fun e w' => e = .returned (.bool true) ∧ Below w.heap.size w w' := by
  by_cases h : extK n = 8
  · exact extWide_two n a0 a1 a2 s0 s1 s2 w hn qa qs hE hT h
  · exact extWide_thr n a0 a1 a2 s0 s1 s2 w hn qa qs hE hT h
end Go.Proofs.YtkhmocbfkpbpfaaGreatDoor
