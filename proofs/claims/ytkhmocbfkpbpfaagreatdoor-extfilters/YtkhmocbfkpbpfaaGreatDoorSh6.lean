/- Contract of the document's Make (layer 10): a constraint and its domains, of plain data: shared by layers 10 to 22. -/
import Derived.Test.YtkhmocbfkpbpfaaGreatDoorMkmake
import Derived.Test.YtkhmocbfkpbpfaaGreatDoorMulp
import Derived.Test.YtkhmocbfkpbpfaaGreatDoorCtd
namespace Go.Proofs.YtkhmocbfkpbpfaaGreatDoor
open Go.RowKit Go.Sort

/-- Slices of numbers that came in: of any length. -/
structure IsRowsN (w : World) (x : Sl) (R : List (List Int)) : Prop where
  len : x.n = R.length
  big : x.n ≤ 9223372036854775807
  lies : 0 < x.n → ∃ ad, x.A = some ad ∧ ad.block < w.heap.size ∧ ∀ i, i < x.n → ∃ u : Sl, w.cell? (ad.add i) = some (.slice u.A u.n u.c) ∧ IsNs .i64 w u (R.getD i [])
theorem IsRowsN.below {w w' : World} {v : Sl} {R : List (List Int)} (h : IsRowsN w v R) (hb : Below w.heap.size w w') : IsRowsN w' v R := by
  refine ⟨h.len, h.big, fun h0 => ?_⟩
  obtain ⟨ad, e, hl, hc⟩ := h.lies h0
  refine ⟨ad, e, Nat.lt_of_lt_of_le hl hb.size, fun i hi => ?_⟩
  obtain ⟨u, h3, h4⟩ := hc i hi
  exact ⟨u, (hb.cell (by rw [add_block]; exact hl)).trans h3, h4.below hb⟩
theorem rowsN_at {W : World} {x : Sl} {R : List (List Int)} (h : IsRowsN W x R) (i : Nat) (hi : i < x.n) : ∃ (ad : Addr) (u : Sl), x.A = some ad ∧ W.cell? (ad.add i) = some (.slice u.A u.n u.c) ∧ IsNs .i64 W u (R.getD i []) := by
  obtain ⟨ad, e, hb, hc⟩ := h.lies (by omega)
  obtain ⟨u, h1, h2⟩ := hc i hi
  exact ⟨ad, u, e, h1, h2⟩

set_option maxHeartbeats 2000000 in
set_option maxRecDepth 100000 in
theorem smallN_any (x : Sl) (zs : List Int) (most : Nat) (wd : Int) (w : World) (h : IsNs .i64 w x zs) (hm : most ≤ 1000) (hw : 1 ≤ wd ∧ wd ≤ 1000000) : Calls Tryz.prog 53 #[.slice x.A x.n x.c, .int .i64 (most : Nat), .int .i64 wd] w fun e w' => (∃ y : Sl, e = .returned (.slice y.A y.n y.c) ∧ Row3 w' w.heap.size y (smallW zs most wd)) ∧ Below w.heap.size w w' := by
  obtain ⟨i0, hi, hz0, hz1, hz2⟩ := info_parts Tryz.info3
  obtain ⟨A, n, c⟩ := x
  have Hn := Lib.hid h.len
  have H := Lib.hid h.lies
  have hbig := h.big
  simp only at Hn H hbig ⊢
  have hw0 : (wd == 0) = false := by simp; omega
  have hw1 : ¬ wd = 0 := by omega
  have HW := Lib.hid hw
  clear h hw
  go_enter Tryz.func53, Tryz.ntmps53
  go_wp2_with fail
  go_loopw [7, 8] (fun v i wr => ∃ k : Nat, k ≤ n ∧ k ≤ most ∧ i = .int .i64 (k : Nat) ∧ Hid (wr.ownsRow w.heap.size 3 1 v (modW wd zs k).length (I (modW wd zs k))) ∧ Hid (Below w.heap.size w wr)) (fun _ i _ => n - (intOf i).toNat)
  case atStart => exact ⟨0, Nat.zero_le _, Nat.zero_le _, rfl, Lib.hid (World.ownsRow_nil _ _ _ _), Lib.hid (Below.refl _ _)⟩
  case round =>
    obtain ⟨wo, rfl⟩ : ∃ wo, wo = wr := ⟨_, rfl⟩
    obtain ⟨k, hk, hk8, rfl, hown, hbr⟩ := hrel
    by_cases hlt : k < n ∧ k < most
    · obtain ⟨hl1, hl2⟩ := hlt
      obtain ⟨ad, rfl, hb, hcl⟩ := H.out (by omega)
      have ck : wo.cell? (ad.add k) = some (.int .i64 (zs.getD k 0)) := (hbr.out.cell (by rw [add_block]; exact hb)).trans (hcl k hl1)
      have hlen := modW_len wd zs k
      have Hstep := Lib.hid (modW_step wd zs k (by rw [← Hn.out]; exact hl1))
      have d1 : decide (k < n) = true := by simpa using hl1
      have d2 : decide (k < most) = true := by simpa using hl2
      have hki : (k : Int) < (n : Nat) := by omega
      generalize zs.getD k 0 = z at *
      have ht := tmod_in z wd (by have := HW.out; omega)
      have hwb : wd ≤ 1000000 := HW.out.2
      have w2 : IntKind.i64.wrap (z.tmod wd) = z.tmod wd := IntWalk.i64_in _ (by omega)
      have Z5 := Lib.hid hbr.out.size
      clear hcl hb ht hwb
      go_wp2_with (at_builtin; refine wpList_append_own _ rfl _ _ 30 rfl w.heap.size 3 i0 (.int .i64 0) 1 8 Tryz.underlying30 hi hz0 hz1 hz2 rfl (by decide) _ _ _ rfl (hown.out.alloc _) ⟨_, 0, none⟩ 1 1 [.int .i64 (z.tmod wd)] rfl rfl ?c1 ?c2 ?c3 ?c4 ?c5 ?_)
      case c1 => intro j u hj; match j, hj with | 0, hj => simp at hj; subst hj; simp [Addr.add]
      case c2 => intro u hu; simp at hu; subst hu; rfl
      case c3 => unfold maxLen; omega
      case c4 => omega
      case c5 => have := Z5.out; simp; omega
      intro v' w2 hown' hgrow _
      have hb2 := Lib.hid (show Below w.heap.size w w2 from by
        have hs := hbr.out.size
        exact (hbr.out.alloc (by omega) _).grown hgrow (by simp; omega) (fun k hk => own_ge hown.out k hk))
      rw [← I_one, ← I_append, show (modW wd zs k).length + 1 = (modW wd zs k ++ [z.tmod wd]).length by simp, ← Hstep.out] at hown'
      have HO2 := Lib.hid hown'
      clear hown hgrow hbr hown' hlen
      go_wp2_with fail
      go_roundw
      case rel => exact ⟨k + 1, by omega, by omega, by go_num, HO2, hb2⟩
      case measure => simp [intOf]; omega
    · have hfin : modW wd zs k = modW wd zs most := by
        unfold modW
        by_cases h8 : k = most
        · rw [h8]
        · rw [List.take_of_length_le (by rw [← Hn.out]; omega), List.take_of_length_le (by rw [← Hn.out]; omega)]
      rw [hfin] at hown
      obtain ⟨A', c', e, hl, -⟩ := own_lies hown.out
      subst e
      have HO := Lib.hid (refof_any A' (modW wd zs most) _ c' wo rfl hl (by have := modW_len wd zs most; omega))
      have HB := hbr
      by_cases hl1 : k < n
      · have d1 : decide (k < n) = true := by simpa using hl1
        have d2 : decide (k < most) = false := by simp; omega
        clear hfin hown hl hbr hlt hl1
        go_wp2_with fail
        refine HO.out.mono ?_
        rintro e w2 ⟨v, rfl, ho, hb2⟩
        obtain ⟨Y, cY, rfl⟩ := slice_row ho
        have HF := Lib.hid (own_base ho HB.out.size)
        have BF := Lib.hid (HB.out.trans (hb2.mono HB.out.size))
        clear ho hb2
        go_wp2_with fail
        go_ret
        exact ⟨⟨⟨Y, _, cY⟩, rfl, HF.out⟩, BF.out⟩
      · have d1 : decide (k < n) = false := by simpa using hl1
        clear hfin hown hl hbr hlt hl1
        go_wp2_with fail
        refine HO.out.mono ?_
        rintro e w2 ⟨v, rfl, ho, hb2⟩
        obtain ⟨Y, cY, rfl⟩ := slice_row ho
        have HF := Lib.hid (own_base ho HB.out.size)
        have BF := Lib.hid (HB.out.trans (hb2.mono HB.out.size))
        clear ho hb2
        go_wp2_with fail
        go_ret
        exact ⟨⟨⟨Y, _, cY⟩, rfl, HF.out⟩, BF.out⟩

/-! Same -/
abbrev caV (a b c : Sl) (k K ch : Int) (x : Sl) : Value := .agg #[.int .u8 k, .slice a.A a.n a.c, .slice b.A b.n b.c, .slice c.A c.n c.c, .int .i16 K, .int .u8 ch, .slice x.A x.n x.c]
abbrev caC (a b c : Sl) (k K ch : Int) (x : Sl) : Array Value := #[.int .u8 k, .slice a.A a.n a.c, .slice b.A b.n b.c, .slice c.A c.n c.c, .int .i16 K, .int .u8 ch, .slice x.A x.n x.c]
/-- The numbers of which the i-th domain is made. -/
def dataE (DD : List (List Int)) (i : Nat) : List Int := if i < DD.length ∧ 0 < (DD.getD i []).length then DD.getD i [] else [((i % 3 : Nat) : Int), 1]
def domsE (DD : List (List Int)) (wd : Int) (i : Nat) : List Int := smallW (dataE DD i) 6 wd

theorem RowsO.kp {g : Nat} {W W' : World} {b : Nat} {y : Sl} {xs : List Sl} {R : List (List Int)} (h : RowsO b W y xs R) (k : Kp g W W') (hg : g < b) : RowsO b W' y xs R :=
  ⟨own_keep' h.row fun q hq => k.block q (own_lt' h.row hq).2 (by have := (own_lt' h.row hq).1; omega), h.len, fun i x r h1 h2 => own_keep' (h.each i x r h1 h2) fun q hq => k.block q (own_lt' (h.each i x r h1 h2) hq).2 (by have := (own_lt' (h.each i x r h1 h2) hq).1; omega)⟩

set_option maxHeartbeats 4000000 in
set_option maxRecDepth 100000 in
theorem make10_sep (zA zB zC x : Sl) (la lb lc : List Int) (DD : List (List Int)) (k K ch kind wd : Int) (w : World) (ha : IsNs .u8 w zA la) (hb : IsNs .u8 w zB lb) (hc : IsNs .i8 w zC lc) (ba : ∀ v ∈ la, 0 ≤ v ∧ v ≤ 255) (bb : ∀ v ∈ lb, 0 ≤ v ∧ v ≤ 255) (bc : ∀ v ∈ lc, -128 ≤ v ∧ v ≤ 127) (hk : 1 ≤ kind ∧ kind ≤ 256) (hK : -32768 ≤ K ∧ K ≤ 32767) (hch : 0 ≤ ch ∧ ch ≤ 255) (hx : IsRowsN w x DD) (hw : 1 ≤ wd ∧ wd ≤ 1000000) :
    Calls Tryz.prog 15 #[caV zA zB zC k K ch x, .int .i64 kind, .int .i64 wd] w fun e w' => (∃ (v : ConV) (y : Sl) (xs : List Sl), e = .returned (.tuple #[v.val (makeE la lb lc (kind - 1) K ch 5).kind (makeE la lb lc (kind - 1) K ch 5).K, .slice y.A y.n y.c]) ∧ ConIn w' v (makeE la lb lc (kind - 1) K ch 5) ∧ MkR (w.heap.size + 1 + 1 + 1 + 1 + 1) w' v (makeE la lb lc (kind - 1) K ch 5) ∧ RowsO w.heap.size w' y xs ((List.range ((makeE la lb lc (kind - 1) K ch 5).A.length + (makeE la lb lc (kind - 1) K ch 5).B.length)).map (domsE DD wd)) ∧ ∃ m, w.heap.size ≤ m ∧ RowsO m w' y xs ((List.range ((makeE la lb lc (kind - 1) K ch 5).A.length + (makeE la lb lc (kind - 1) K ch 5).B.length)).map (domsE DD wd)) ∧ ∀ W', Below m w' W' → ConIn W' v (makeE la lb lc (kind - 1) K ch 5)) ∧ Below w.heap.size w w' := by
  have w1 : IntKind.i64.wrap (kind - 1) = kind - 1 := IntWalk.i64_in _ (by omega)
  have w2 : IntKind.u8.wrap (kind - 1) = kind - 1 := by unfold IntKind.wrap; simp [IntKind.bits, IntKind.signed]; omega
  obtain ⟨i0, hi, hz0, hz1, hz2⟩ := info_parts infoSl'
  have HI := Lib.hid (And.intro hi (And.intro hz0 (And.intro hz1 hz2)))
  obtain ⟨wL, hwL⟩ : ∃ wL, (w.alloc (.cells (caC zA zB zC (kind - 1) K ch x) 29)).alloc (.cells zeroC 32) = wL := ⟨_, rfl⟩
  have e1 := heap_new w (.cells (caC zA zB zC (kind - 1) K ch x) 29)
  have e2 := heap_new (w.alloc (.cells (caC zA zB zC (kind - 1) K ch x) 29)) (.cells zeroC 32)
  have z1 : (w.alloc (.cells (caC zA zB zC (kind - 1) K ch x) 29)).heap.size = w.heap.size + 1 := by simp
  rw [z1, hwL] at e2
  have HZ : Hid (wL.heap[w.heap.size]? = some (.cells (caC zA zB zC (kind - 1) K ch x) 29 (0, 0))) := Lib.hid (by
    rw [← hwL, Below.heap_alloc _ _ _ (by rw [z1]; omega)]
    exact e1)
  have HO := Lib.hid e2
  have HLOW : Hid (Below w.heap.size w wL) := Lib.hid (hwL ▸ (below1 w _).alloc (by simp) _)
  have HSZ : Hid (wL.heap.size = w.heap.size + 1 + 1) := Lib.hid (by rw [← hwL]; simp)
  have CM : Hid (Calls Tryz.prog 29 #[smV zA zB zC (kind - 1) K ch, .int .i64 5] wL fun e w' => (∃ v : ConV, e = .returned (v.val (makeE la lb lc (kind - 1) K ch 5).kind (makeE la lb lc (kind - 1) K ch 5).K) ∧ ConIn w' v (makeE la lb lc (kind - 1) K ch 5) ∧ MkR (wL.heap.size + 1 + 1 + 1) w' v (makeE la lb lc (kind - 1) K ch 5)) ∧ Below wL.heap.size wL w') := Lib.hid (make_full zA zB zC la lb lc (kind - 1) K ch 5 wL (ha.below HLOW.out) (hb.below HLOW.out) (hc.below HLOW.out) ba bb bc (by omega) hK hch (by omega))
  have SLM := Lib.hid (makeE_slim la lb lc (kind - 1) K ch 5)
  generalize makeE la lb lc (kind - 1) K ch 5 = c at CM SLM ⊢
  have HX := Lib.hid (hx.below HLOW.out)
  have hxb := hx.big
  have HXL := Lib.hid hx.len
  have HWL := Lib.hid hwL
  have HW := Lib.hid hw
  clear e1 e2 z1 hwL ha hb hc ba bb bc hk hK hch hx hw hi hz0 hz1 hz2
  go_enter Tryz.func15, Tryz.ntmps15
  go_upto_region 2 with fail
  change Code.wp _ _ _ _ ((w.alloc (.cells (caC zA zB zC (kind - 1) K ch x) 29)).alloc (.cells zeroC 32))
  rw [HWL.out]
  clear HWL w1 w2
  have z0 := box_cell HZ.out (j := 0) (x := .int .u8 (kind - 1)) rfl
  have z1 := box_cell HZ.out (j := 1) (x := .slice zA.A zA.n zA.c) rfl
  have z2 := box_cell HZ.out (j := 2) (x := .slice zB.A zB.n zB.c) rfl
  have z3 := box_cell HZ.out (j := 3) (x := .slice zC.A zC.n zC.c) rfl
  have z4 := box_cell HZ.out (j := 4) (x := .int .i16 K) rfl
  have z5 := box_cell HZ.out (j := 5) (x := .int .u8 ch) rfl
  go_wp2_with fail
  refine CM.out.mono ?_
  rintro e w2 ⟨⟨v, rfl, hv, hmr⟩, b2⟩
  obtain ⟨w3, hw3⟩ : ∃ w3, cBox w2 v c.kind c.K = w3 := ⟨_, rfl⟩
  have b23 : Below w2.heap.size w2 w3 := hw3 ▸ below1 w2 _
  have HC3 : Hid (w3.heap[w2.heap.size]? = some (.cells (v.cells c.kind c.K) 32 (0, 0))) := Lib.hid (hw3 ▸ heap_new w2 _)
  have HM3 := Lib.hid (hmr.kp (Kp.of_below (G := w.heap.size) b23) (by have := HSZ.out; omega))
  have BL3 : Hid (Below wL.heap.size wL w3) := Lib.hid (b2.trans (b23.mono b2.size))
  have HZ3 : Hid (w3.heap[w.heap.size]? = some (.cells (caC zA zB zC (kind - 1) K ch x) 29 (0, 0))) := Lib.hid ((BL3.out.block _ (by have := HSZ.out; omega)).trans HZ.out)
  have HO3 : Hid (w3.heap[w.heap.size + 1]? = some (.cells zeroC 32 (0, 0))) := Lib.hid ((BL3.out.block _ (by have := HSZ.out; omega)).trans HO.out)
  have HX3 := Lib.hid (HX.out.below BL3.out)
  have BW3 := Lib.hid (HLOW.out.trans (BL3.out.mono HLOW.out.size))
  have HS3 : Hid (w.heap.size + 1 < w2.heap.size ∧ w2.heap.size < w3.heap.size) := Lib.hid ⟨by have := b2.size; have := HSZ.out; omega, (Array.getElem?_eq_some_iff.1 HC3.out).1⟩
  have han : v.a.n ≤ 1000000 := by rw [hv.a.len]; exact SLM.out.1
  have hbn : v.b.n ≤ 1000000 := by rw [hv.b.len]; exact SLM.out.2.1
  have HNN : Hid (c.A.length + c.B.length = v.a.n + v.b.n) := Lib.hid (by rw [hv.a.len, hv.b.len])
  clear z0 z1 z2 z3 z4 z5 CM hv hmr b2 b23 HZ HO HX
  go_upto_region 5 with fail
  first
    | (change Code.wp _ _ _ _ (cBox w2 v c.kind c.K); rw [hw3])
    | skip
  clear hw3
  obtain ⟨N, hN⟩ : ∃ N, N = v.a.n + v.b.n := ⟨_, rfl⟩
  have HN := Lib.hid hN
  have hNb : N ≤ 2000000 := by omega
  have wN : IntKind.i64.wrap (((v.a.n : Nat) : Int) + ((v.b.n : Nat) : Int)) = (N : Nat) := by rw [show ((v.a.n : Nat) : Int) + ((v.b.n : Nat) : Int) = (N : Int) by omega]; exact IntWalk.i64_in _ (by omega)
  clear hN
  go_loopw [9, 10] (fun s i wr => ∃ (k : Nat) (y : Sl) (xs : List Sl), s = .slice y.A y.n y.c ∧ i = .int .i64 (k : Nat) ∧ k ≤ N ∧ Hid (RowsO w3.heap.size wr y xs ((List.range k).map (domsE DD wd))) ∧ Hid (xs.length = k) ∧ Hid (Below w3.heap.size w3 wr)) (fun _ i _ => N - (intOf i).toNat)
  case atStart => exact ⟨0, ⟨none, 0, 0⟩, [], rfl, rfl, by omega, Lib.hid (RowsO.nil _ _), Lib.hid rfl, Lib.hid (Below.refl _ _)⟩
  case round =>
    obtain ⟨k, y, xs, rfl, rfl, hk, HRO, HK, HB⟩ := hrel
    have HCr : Hid (wr.heap[w2.heap.size]? = some (.cells (v.cells c.kind c.K) 32 (0, 0))) := Lib.hid ((HB.out.block _ HS3.out.2).trans HC3.out)
    have p1 := box_cell HCr.out (j := 1) (x := .slice v.a.A v.a.n v.a.c) rfl
    have p2 := box_cell HCr.out (j := 2) (x := .slice v.b.A v.b.n v.b.c) rfl
    by_cases hlt : k < N
    · have m3 : ((k : Nat) : Int) % 3 = ((k % 3 : Nat) : Int) := by omega
      have m3' : ((k : Nat) : Int).tmod 3 = ((k % 3 : Nat) : Int) := by rw [Int.tmod_eq_emod_of_nonneg (by omega)]; exact m3
      obtain ⟨k3, hk3⟩ : ∃ k3, k3 = k % 3 := ⟨_, rfl⟩
      have hk3b : k3 < 3 := by omega
      rw [← hk3] at m3 m3'
      have w33 : IntKind.i64.wrap ((k3 : Nat) : Int) = (k3 : Nat) := IntWalk.i64_in _ (by omega)
      obtain ⟨w4, hw4⟩ : ∃ w4, wr.alloc (.cells #[.int .i64 (k3 : Nat), .int .i64 1] 3) = w4 := ⟨_, rfl⟩
      have h4 := heap_new wr (.cells #[.int .i64 (k3 : Nat), .int .i64 1] 3)
      rw [hw4] at h4
      have b4 : Below wr.heap.size wr w4 := hw4 ▸ below1 wr _
      have HLIT : Hid (IsNs .i64 w4 ⟨some ⟨wr.heap.size, 0, none⟩, 2, 2⟩ [((k3 : Nat) : Int), 1]) := Lib.hid (by
        refine ⟨rfl, fun _ => ⟨_, rfl, (Array.getElem?_eq_some_iff.1 h4).1, fun j hj => ?_⟩, by simp, Nat.le_refl _⟩
        rw [Addr.add_mid, Nat.zero_add]
        match j, hj with
        | 0, _ => exact box_cell h4 rfl
        | 1, _ => exact box_cell h4 rfl)
      have HB4 := Lib.hid (HB.out.trans (b4.mono HB.out.size))
      have HRO4 := Lib.hid (HRO.out.below b4)
      have HZ4 : Hid (w4.heap[w.heap.size]? = some (.cells (caC zA zB zC (kind - 1) K ch x) 29 (0, 0))) := Lib.hid ((HB4.out.block _ (by have := HS3.out; omega)).trans HZ3.out)
      have HX4 := Lib.hid (HX3.out.below HB4.out)
      have q6 := box_cell HZ4.out (j := 6) (x := .slice x.A x.n x.c) rfl
      have HT2 : Hid ((List.range (k + 1)).map (domsE DD wd) = (List.range k).map (domsE DD wd) ++ [smallW (dataE DD k) 6 wd]) := Lib.hid (by rw [List.range_succ, List.map_append]; rfl)
      have CS : Hid (∀ (u : Sl) (L : List Int), IsNs .i64 w4 u L → Calls Tryz.prog 53 #[.slice u.A u.n u.c, .int .i64 6, .int .i64 wd] w4 fun e w' => (∃ y : Sl, e = .returned (.slice y.A y.n y.c) ∧ Row3 w' w4.heap.size y (smallW L 6 wd)) ∧ Below w4.heap.size w4 w') := Lib.hid (fun u L h => smallN_any u L 6 wd w4 h (by omega) HW.out)
      have GO : Hid (∀ (u : Sl), IsNs .i64 w4 u (dataE DD k) → Calls Tryz.prog 53 #[.slice u.A u.n u.c, .int .i64 6, .int .i64 wd] w4 fun e w' => (∃ y : Sl, e = .returned (.slice y.A y.n y.c) ∧ Row3 w' w4.heap.size y (smallW (dataE DD k) 6 wd)) ∧ Below w4.heap.size w4 w') := Lib.hid (fun u h => CS.out u _ h)
      have HDT : Hid (dataE DD k = if k < x.n ∧ 0 < (DD.getD k []).length then DD.getD k [] else [((k3 : Nat) : Int), 1]) := Lib.hid (by unfold dataE; rw [HXL.out, hk3])
      clear h4 b4 CS hk3 HRO HB
      obtain ⟨uu, HUU, HCASE⟩ : ∃ uu : Sl, Hid (IsNs .i64 w4 uu (dataE DD k)) ∧ Hid ((k < x.n ∧ 0 < uu.n ∧ ∃ ad : Addr, x.A = some ad ∧ w4.cell? (ad.add k) = some (.slice uu.A uu.n uu.c)) ∨ (uu = ⟨some ⟨wr.heap.size, 0, none⟩, 2, 2⟩ ∧ ¬ k < x.n) ∨ (uu = ⟨some ⟨wr.heap.size, 0, none⟩, 2, 2⟩ ∧ k < x.n ∧ ∃ (ad : Addr) (u : Sl), x.A = some ad ∧ w4.cell? (ad.add k) = some (.slice u.A u.n u.c) ∧ u.n = 0)) := by
        by_cases g1 : k < x.n
        · obtain ⟨ad, u, ex, qx, ux⟩ := rowsN_at HX4.out k g1
          by_cases g2 : 0 < (DD.getD k []).length
          · exact ⟨u, Lib.hid (by rw [HDT.out, if_pos ⟨g1, g2⟩]; exact ux), Lib.hid (.inl ⟨g1, by rw [ux.len]; exact g2, ad, ex, qx⟩)⟩
          · exact ⟨⟨some ⟨wr.heap.size, 0, none⟩, 2, 2⟩, Lib.hid (by rw [HDT.out, if_neg (fun q => g2 q.2)]; exact HLIT.out), Lib.hid (.inr (.inr ⟨rfl, g1, ad, u, ex, qx, by rw [ux.len]; omega⟩))⟩
        · exact ⟨⟨some ⟨wr.heap.size, 0, none⟩, 2, 2⟩, Lib.hid (by rw [HDT.out, if_neg (fun q => g1 q.1)]; exact HLIT.out), Lib.hid (.inr (.inl ⟨rfl, g1⟩))⟩
      have CU := Lib.hid (GO.out uu HUU.out)
      clear GO HLIT HDT HUU
      go_upto_region 8 with fail
      first
        | (change Code.wp _ _ _ _ (wr.alloc (.cells #[.int .i64 (k3 : Nat), .int .i64 1] 3)); rw [hw4])
        | skip
      clear hw4 m3 m3' w33
      obtain ⟨g1, g2, ad, ex, qx⟩ | ⟨rfl, g1⟩ | ⟨rfl, g1, ad, u, ex, qx, g2⟩ := HCASE.out
      case' inl =>
        have d1 : decide (k < x.n) = true := by simpa using g1
        have d2 : decide (0 < uu.n) = true := by simpa using g2
        rw [ex] at q6
        clear ex
      case' inr.inl =>
        have d1 : decide (k < x.n) = false := by simpa using g1
      case' inr.inr =>
        have d1 : decide (k < x.n) = true := by simpa using g1
        rw [ex] at q6
        rw [g2] at qx
        clear ex
      all_goals
        clear HCASE
        go_wp2_with fail
        refine CU.out.mono ?_
        rintro e w5 ⟨⟨y5, rfl, h5⟩, b5⟩
        have HN5 : Hid (Row3 w5 w3.heap.size y5 (smallW (dataE DD k) 6 wd)) := Lib.hid (own_base h5 HB4.out.size)
        have HRO5 := Lib.hid (HRO4.out.below b5)
        have HB5 := Lib.hid (HB4.out.trans (b5.mono HB4.out.size))
        have K5 := below1 w5 (.cells #[.slice y5.A y5.n y5.c] 30)
        have HRO6 := Lib.hid (HRO5.out.below K5)
        have HN6 : Hid (Row3 (w5.alloc (.cells #[.slice y5.A y5.n y5.c] 30)) w3.heap.size y5 (smallW (dataE DD k) 6 wd)) := Lib.hid (own_keep' HN5.out fun g hg => K5.block g (own_lt' HN5.out hg).2)
        have HB6 := Lib.hid (HB5.out.trans (K5.mono HB5.out.size))
        have Z3 : Hid (xs.length + 1 ≤ maxLen) := Lib.hid (by have := HK.out; unfold maxLen; omega)
        have Z4 : Hid ((xs.length + 1) * 24 ≤ 140737488355328) := Lib.hid (by have := HK.out; omega)
        clear h5 b5 K5 CU HRO4 HB4 HRO5 HN5 q6
        go_wp2_with (at_builtin; refine wpList_append_own _ rfl _ _ 27 rfl w3.heap.size 30 i0 (.slice none 0 0) 1 24 Tryz.underlying27 HI.out.1 HI.out.2.1 HI.out.2.2.1 HI.out.2.2.2 rfl (by decide) _ _ _ rfl HRO6.out.row ⟨_, 0, none⟩ 1 1 [.slice y5.A y5.n y5.c] rfl rfl ?c1 ?c2 Z3.out Z4.out HB6.out.size ?_)
        case c1 => intro j u hj; match j, hj with | 0, hj => simp at hj; subst hj; simp [Addr.add]
        case c2 => intro u hu; simp at hu; subst hu; rfl
        intro v' w7 hown' hgrow _
        obtain ⟨Y, kY, rfl⟩ := slice_row hown'
        have HO7 : Hid (RowsO w3.heap.size w7 ⟨Y, xs.length + 1, kY⟩ (xs ++ [y5]) ((List.range (k + 1)).map (domsE DD wd))) := Lib.hid (by
          rw [HT2.out]
          exact HRO6.out.step HN6.out hown' hgrow)
        have HB7 := Lib.hid (HB6.out.grown hgrow HB6.out.size (own_ge HRO6.out.row))
        have HK7 : Hid ((xs ++ [y5]).length = k + 1) := Lib.hid (by simp [HK.out])
        clear hown' hgrow HRO6 HN6 HB6 HB5 HT2 Z3 Z4 HK
        go_wp2_with fail
        go_roundw
        case rel => exact ⟨k + 1, ⟨Y, _, kY⟩, xs ++ [y5], rfl, by go_num, by omega, HO7, HK7, HB7⟩
        case measure => simp [intOf]; omega
    · obtain rfl : k = N := by omega
      have HOr : Hid (wr.heap[w.heap.size + 1]? = some (.cells zeroC 32 (0, 0))) := Lib.hid ((HB.out.block _ (by have := HS3.out; omega)).trans HO3.out)
      have x0 := box_cell HCr.out (j := 0) (x := .int .i64 c.kind) rfl
      have x3 := box_cell HCr.out (j := 3) (x := .slice v.c.A v.c.n v.c.c) rfl
      have x4 := box_cell HCr.out (j := 4) (x := .slice v.d.A v.d.n v.d.c) rfl
      have x5 := box_cell HCr.out (j := 5) (x := .slice v.e.A v.e.n v.e.c) rfl
      have x6 := box_cell HCr.out (j := 6) (x := .int .i64 c.K) rfl
      have x7 := box_cell HCr.out (j := 7) (x := .slice v.r.A v.r.n v.r.c) rfl
      have y0 := box_cell HOr.out (j := 0) rfl
      have y1 := box_cell HOr.out (j := 1) rfl
      have y2 := box_cell HOr.out (j := 2) rfl
      have y3 := box_cell HOr.out (j := 3) rfl
      have y4 := box_cell HOr.out (j := 4) rfl
      have y5 := box_cell HOr.out (j := 5) rfl
      have y6 := box_cell HOr.out (j := 6) rfl
      have y7 := box_cell HOr.out (j := 7) rfl
      have f0 := box_free HOr.out 0
      have f1 := box_free HOr.out 1
      have f2 := box_free HOr.out 2
      have f3 := box_free HOr.out 3
      have f4 := box_free HOr.out 4
      have f5 := box_free HOr.out 5
      have f6 := box_free HOr.out 6
      have f7 := box_free HOr.out 7
      obtain ⟨hQ, kQ⟩ := out8 HOr.out (.int .i64 c.kind) (.slice v.a.A v.a.n v.a.c) (.slice v.b.A v.b.n v.b.c) (.slice v.c.A v.c.n v.c.c) (.slice v.d.A v.d.n v.d.c) (.slice v.e.A v.e.n v.e.c) (.int .i64 c.K) (.slice v.r.A v.r.n v.r.c)
      have kAll := (Kp.of_below (G := w.heap.size + 1) HB.out).trans kQ
      have hlowr : Below w.heap.size w wr := BW3.out.trans (HB.out.mono BW3.out.size)
      have hlowQ := hlowr.trans (kQ.below (by have := HB.out.size; have := HS3.out; omega) (by omega))
      have hm2 := (HM3.out.kp (Kp.of_below (G := w.heap.size) HB.out) (by have := HSZ.out; omega)).kp kQ (by have := HSZ.out; omega)
      obtain ⟨l1, l2, l3, l4, l5, l6, l7⟩ := SLM.out
      have HCQ := Lib.hid (hm2.con l1 l2 l3 l4 l5 l6 l7)
      rw [HSZ.out] at hm2
      have HMQ := Lib.hid hm2
      clear hm2
      have hr2 := RowsO.kp HRO.out kQ (by have := HS3.out; omega)
      have HSEP : Hid (∃ m, w.heap.size ≤ m ∧ RowsO m _ y xs ((List.range (c.A.length + c.B.length)).map (domsE DD wd)) ∧ ∀ W', Below m _ W' → ConIn W' v c) := Lib.hid (by
        refine ⟨w3.heap.size, BW3.out.size, by rw [HNN.out, ← HN.out]; exact hr2, fun W' hW => ?_⟩
        have k2 : Kp (w.heap.size + 1) w3 W' := ⟨hW.os.trans kAll.os, hW.tape.trans kAll.tape, hW.output.trans kAll.output, Nat.le_trans kAll.size hW.size, fun q hq hne => (hW.block q hq).trans (kAll.block q hq hne)⟩
        exact (HM3.out.kp k2 (by have := HSZ.out; omega)).con l1 l2 l3 l4 l5 l6 l7)
      have HRQ : Hid (RowsO w.heap.size _ y xs ((List.range (c.A.length + c.B.length)).map (domsE DD wd))) := Lib.hid (by
        rw [HNN.out, ← HN.out]
        exact ⟨own_base hr2.row BW3.out.size, hr2.len, fun i x r h1 h2 => own_base (hr2.each i x r h1 h2) BW3.out.size⟩)
      have HLQ := Lib.hid hlowQ
      have q0 := box_cell (j := 0) hQ rfl
      have q1 := box_cell (j := 1) hQ rfl
      have q2 := box_cell (j := 2) hQ rfl
      have q3 := box_cell (j := 3) hQ rfl
      have q4 := box_cell (j := 4) hQ rfl
      have q5 := box_cell (j := 5) hQ rfl
      have q6 := box_cell (j := 6) hQ rfl
      have q7 := box_cell (j := 7) hQ rfl
      have HQ := Lib.hid (And.intro q0 (And.intro q1 (And.intro q2 (And.intro q3 (And.intro q4 (And.intro q5 (And.intro q6 q7)))))))
      clear q0 q1 q2 q3 q4 q5 q6 q7 hQ kQ kAll hlowr hlowQ hr2 hlt HRO HB l1 l2 l3 l4 l5 l6 l7
      go_wp2_with fail
      obtain ⟨q0, q1, q2, q3, q4, q5, q6, q7⟩ := HQ.out
      exact bodyPost_ret (v := .tuple #[v.val c.kind c.K, .slice y.A y.n y.c]) (by simp [results, Tryz.results15, go_sem, q0, q1, q2, q3, q4, q5, q6, q7]) rfl ⟨⟨v, y, xs, rfl, HCQ.out, HMQ.out, HRQ.out, HSEP.out⟩, HLQ.out⟩
theorem make10_full (zA zB zC x : Sl) (la lb lc : List Int) (DD : List (List Int)) (k K ch kind wd : Int) (w : World) (ha : IsNs .u8 w zA la) (hb : IsNs .u8 w zB lb) (hc : IsNs .i8 w zC lc) (ba : ∀ v ∈ la, 0 ≤ v ∧ v ≤ 255) (bb : ∀ v ∈ lb, 0 ≤ v ∧ v ≤ 255) (bc : ∀ v ∈ lc, -128 ≤ v ∧ v ≤ 127) (hk : 1 ≤ kind ∧ kind ≤ 256) (hK : -32768 ≤ K ∧ K ≤ 32767) (hch : 0 ≤ ch ∧ ch ≤ 255) (hx : IsRowsN w x DD) (hw : 1 ≤ wd ∧ wd ≤ 1000000) :
    Calls Tryz.prog 15 #[caV zA zB zC k K ch x, .int .i64 kind, .int .i64 wd] w fun e w' => (∃ (v : ConV) (y : Sl) (xs : List Sl), e = .returned (.tuple #[v.val (makeE la lb lc (kind - 1) K ch 5).kind (makeE la lb lc (kind - 1) K ch 5).K, .slice y.A y.n y.c]) ∧ ConIn w' v (makeE la lb lc (kind - 1) K ch 5) ∧ MkR (w.heap.size + 1 + 1 + 1 + 1 + 1) w' v (makeE la lb lc (kind - 1) K ch 5) ∧ RowsO w.heap.size w' y xs ((List.range ((makeE la lb lc (kind - 1) K ch 5).A.length + (makeE la lb lc (kind - 1) K ch 5).B.length)).map (domsE DD wd))) ∧ Below w.heap.size w w' :=
  (make10_sep zA zB zC x la lb lc DD k K ch kind wd w ha hb hc ba bb bc hk hK hch hx hw).mono fun _ _ ⟨⟨v, y, xs, e, h1, h2, h3, _⟩, b⟩ => ⟨⟨v, y, xs, e, h1, h2, h3⟩, b⟩
theorem make10_any (zA zB zC x : Sl) (la lb lc : List Int) (DD : List (List Int)) (k K ch kind wd : Int) (w : World) (ha : IsNs .u8 w zA la) (hb : IsNs .u8 w zB lb) (hc : IsNs .i8 w zC lc) (ba : ∀ v ∈ la, 0 ≤ v ∧ v ≤ 255) (bb : ∀ v ∈ lb, 0 ≤ v ∧ v ≤ 255) (bc : ∀ v ∈ lc, -128 ≤ v ∧ v ≤ 127) (hk : 1 ≤ kind ∧ kind ≤ 256) (hK : -32768 ≤ K ∧ K ≤ 32767) (hch : 0 ≤ ch ∧ ch ≤ 255) (hx : IsRowsN w x DD) (hw : 1 ≤ wd ∧ wd ≤ 1000000) :
    Calls Tryz.prog 15 #[caV zA zB zC k K ch x, .int .i64 kind, .int .i64 wd] w fun e w' => (∃ (v : ConV) (y : Sl) (xs : List Sl), e = .returned (.tuple #[v.val (makeE la lb lc (kind - 1) K ch 5).kind (makeE la lb lc (kind - 1) K ch 5).K, .slice y.A y.n y.c]) ∧ ConIn w' v (makeE la lb lc (kind - 1) K ch 5) ∧ RowsO w.heap.size w' y xs ((List.range ((makeE la lb lc (kind - 1) K ch 5).A.length + (makeE la lb lc (kind - 1) K ch 5).B.length)).map (domsE DD wd))) ∧ Below w.heap.size w w' :=
  (make10_full zA zB zC x la lb lc DD k K ch kind wd w ha hb hc ba bb bc hk hK hch hx hw).mono fun _ _ ⟨⟨v, y, xs, e, h1, _, h2⟩, b⟩ => ⟨⟨v, y, xs, e, h1, h2⟩, b⟩
end Go.Proofs.YtkhmocbfkpbpfaaGreatDoor
