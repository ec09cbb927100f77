/- Contract of mul's Filter: what is left, or nothing. -/
import Derived.Test.YtkhmocbfkpbpfaaGreatDoorMul6
import Derived.Test.YtkhmocbfkpbpfaaGreatDoorMrd4
import Derived.Test.YtkhmocbfkpbpfaaGreatDoorDKeep
namespace Go.Proofs.YtkhmocbfkpbpfaaGreatDoor
open Go.RowKit Go.Sort

set_option maxHeartbeats 4000000 in
set_option maxRecDepth 100000 in
theorem mul_any (v : ConV) (c : ConL) (x : Sl) (D : List (List Int)) (w : World) (hE : EntIn w) (hT : TabZ w) (h : ConIn w v c) (hx : DomsIn w x D) :
    Calls Tryz.prog 34 #[v.val c.kind c.K, .slice x.A x.n x.c] w fun e w' => (∃ y : Sl, e = .returned (.tuple #[.slice y.A y.n y.c, .bool (mulE c D).isSome]) ∧ DomsIn w' y ((mulE c D).getD [])) ∧ Below w.heap.size w w' := by
  obtain ⟨wb, hwb⟩ : ∃ wb, cBox w v c.kind c.K = wb := ⟨_, rfl⟩
  have HR : Hid (RBox w.heap.size wb v c ⟨none, 0, 0⟩ [] ∧ Below w.heap.size w wb) := Lib.hid (hwb ▸ ⟨RBox.start h (IsInts.nil _), cBox_below _ _ _ _⟩)
  have HD := Lib.hid (hx.below HR.out.2)
  have HT := Lib.hid (hT.below HR.out.2)
  have CM := Lib.hid (mayMul_any v c x D wb (hE.below HR.out.2) HR.out.1.con HD.out)
  obtain ⟨R, hR⟩ : ∃ R, R = mulE c D := ⟨_, rfl⟩
  rw [← hR]
  have HWB := Lib.hid hwb
  have HB := Lib.hid HR.out.2
  have d0 := HR.out.1.c0
  have d1 := HR.out.1.c1
  have d2 := HR.out.1.c2
  have d3 := HR.out.1.c3
  have d4 := HR.out.1.c4
  have d5 := HR.out.1.c5
  have d6 := HR.out.1.c6
  have d7 := HR.out.1.c7
  have HRR := Lib.hid hR
  clear hwb h hx hE hT hR
  cases hf : fitsE c D 5 7 with
  | false =>
    rw [hf] at CM
    have HF : Hid (R = none) := Lib.hid (by rw [HRR.out]; unfold mulE; rw [if_neg (by rw [hf]; decide)])
    clear hf HRR
    go_enter Tryz.func34, Tryz.ntmps34
    go_upto_region 1 with fail
    change Code.wp _ _ _ _ (cBox w v c.kind c.K)
    rw [HWB.out]
    clear HWB
    go_wp2_with fail
    refine CM.out.mono ?_
    rintro e w1 ⟨rfl, b1⟩
    have B1 := Lib.hid (HB.out.trans (b1.mono HB.out.size))
    clear b1 CM d0 d1 d2 d3 d4 d5 d6 d7
    go_wp2_with fail
    go_ret2
    rw [HF.out]
    exact ⟨⟨⟨none, 0, 0⟩, rfl, DomsIn.nil _⟩, B1.out⟩
  | true =>
    rw [hf] at CM
    obtain ⟨A, Bs, C, hDD, hk, ha, hb, hc⟩ := fits_three hf
    have HV : Hid (R = if (mulL c.kind A Bs C).any (fun l => l.length == 0) = true then none else some (mulL c.kind A Bs C)) := Lib.hid (by rw [HRR.out]; unfold mulE; rw [if_pos hf, hDD]; rfl)
    rw [hDD] at HD
    have CF := Lib.hid (fun W (hW : Below wb.heap.size wb W) => mulFilter_any c.kind x A Bs C W hk (HD.out.below hW) (HT.out.below hW) ha hb)
    obtain ⟨L, hL⟩ : ∃ L, L = mulL c.kind A Bs C := ⟨_, rfl⟩
    rw [← hL] at HV CF
    clear hf HRR hDD hk ha hb hc hL HD HT
    go_enter Tryz.func34, Tryz.ntmps34
    go_upto_region 1 with fail
    change Code.wp _ _ _ _ (cBox w v c.kind c.K)
    rw [HWB.out]
    clear HWB
    go_wp2_with fail
    refine CM.out.mono ?_
    rintro e w1 ⟨rfl, b1⟩
    have B1 := Lib.hid b1
    have d0' := (b1.cell (World.block_lt_of_cell? _ _ d0)).trans d0
    clear b1 CM d0 d1 d2 d3 d4 d5 d6 d7
    go_wp2_with fail
    refine (CF.out w1 B1.out).mono ?_
    rintro e w2 ⟨⟨y, rfl, hy⟩, b2⟩
    have HY := Lib.hid hy
    have B2 := Lib.hid (HB.out.trans ((B1.out.trans (b2.mono B1.out.size)).mono HB.out.size))
    have CE := Lib.hid (anyEmpty_any y L w2 hy)
    clear hy b2 CF d0'
    cases ho : L.any (fun l => l.length == 0) with
    | false =>
      rw [ho] at CE
      have HF : Hid (R = some L) := Lib.hid (by rw [HV.out, ho]; rfl)
      clear ho HV
      go_wp2_with fail
      refine CE.out.mono ?_
      rintro e w3 ⟨rfl, b3⟩
      have B3 := Lib.hid (B2.out.trans (b3.mono B2.out.size))
      have HY3 := Lib.hid (HY.out.below b3)
      clear b3 CE
      go_wp2_with fail
      go_ret2
      rw [HF.out]
      exact ⟨⟨y, rfl, HY3.out⟩, B3.out⟩
    | true =>
      rw [ho] at CE
      have HF : Hid (R = none) := Lib.hid (by rw [HV.out, ho]; rfl)
      clear ho HV
      go_wp2_with fail
      refine CE.out.mono ?_
      rintro e w3 ⟨rfl, b3⟩
      have B3 := Lib.hid (B2.out.trans (b3.mono B2.out.size))
      clear b3 CE
      go_wp2_with fail
      go_ret2
      rw [HF.out]
      exact ⟨⟨⟨none, 0, 0⟩, rfl, DomsIn.nil _⟩, B3.out⟩
end Go.Proofs.YtkhmocbfkpbpfaaGreatDoor

/- Contract of the document's Pairs: what is left is the solutions' values. -/
namespace Go.Proofs.YtkhmocbfkpbpfaaGreatDoor
open Go.RowKit Go.Sort

set_option maxHeartbeats 4000000 in
set_option maxRecDepth 100000 in
theorem pairs_any (kind : Int) (x : Sl) (A Bs C : List Int) (w : World) (hk : kind = 5 ∨ kind = 6 ∨ kind = 7 ∨ kind = 9 ∨ kind = 10) (h : IsRows w x [A, Bs, C]) (hA : DomL A) (hB : DomL Bs) (hC : DomL C) (lA : A.length ≤ 200000) (lB : Bs.length ≤ 200000) (lC : C.length ≤ 200000) :
    Calls Tryz.prog 60 #[.int .i64 kind, .slice x.A x.n x.c] w fun e w' => (∃ (y : Sl), e = .returned (.tuple #[.slice y.A y.n y.c, .bool (decide (hitsE (kindV kind) C A Bs ≠ []))]) ∧
      IsRows w' y (if hitsE (kindV kind) C A Bs = [] then [] else [ofL (h1 (hitsE (kindV kind) C A Bs)), ofL (h2 (hitsE (kindV kind) C A Bs)), ofL (h3 (hitsE (kindV kind) C A Bs))])) ∧ Below w.heap.size w w' := by
  refine (pairs_walk kind x A Bs C w hk h lA lB lC (domL_in hA) (domL_in hB)).mono ?_
  rintro e w' ⟨⟨an, MA, MB, MC, hM, y, rfl, hy⟩, b⟩
  obtain ⟨han, htell⟩ := marks_tell hA hB hC hM
  refine ⟨⟨y, by rw [han], ?_⟩, b⟩
  by_cases hh : hitsE (kindV kind) C A Bs = []
  · rw [if_pos hh]
    rw [if_neg (by rw [han]; simp [hh])] at hy
    exact hy
  · have hy1 : an = true := by rw [han]; simpa using hh
    rw [if_neg hh]
    rw [if_pos hy1] at hy
    obtain ⟨t1, t2, t3⟩ := htell hy1
    rw [t1, t2, t3] at hy
    exact hy
end Go.Proofs.YtkhmocbfkpbpfaaGreatDoor

/- Contract of the document's Filter (layer 11), where few pairs are looked at. -/
namespace Go.Proofs.YtkhmocbfkpbpfaaGreatDoor
open Go.RowKit Go.Sort

set_option maxHeartbeats 4000000 in
set_option maxRecDepth 100000 in
theorem refmul_pairs (v : ConV) (c : ConL) (x : Sl) (D : List (List Int)) (w : World) (h : ConIn w v c) (hx : IsRows w x D) (hD : ∀ l ∈ D, DomL l ∧ l.length ≤ 200000) (hP : fitsE c D 5 7 = true → (D.getD 0 []).length * (D.getD 1 []).length ≤ 4096) :
    Calls Tryz.prog 36 #[v.val c.kind c.K, .slice x.A x.n x.c] w fun e w' => (∃ y : Sl, e = .returned (.tuple #[.slice y.A y.n y.c, .bool (mulE c D).isSome]) ∧ IsRows w' y ((mulE c D).getD [])) ∧ Below w.heap.size w w' := by
  obtain ⟨wb, hwb⟩ : ∃ wb, cBox w v c.kind c.K = wb := ⟨_, rfl⟩
  have HR : Hid (RBox w.heap.size wb v c ⟨none, 0, 0⟩ [] ∧ Below w.heap.size w wb) := Lib.hid (hwb ▸ ⟨RBox.start h (IsInts.nil _), cBox_below _ _ _ _⟩)
  have HX := Lib.hid (hx.below HR.out.2)
  have CM := Lib.hid (fits_any v c x D 5 7 wb HR.out.1.con HX.out)
  obtain ⟨R, hR⟩ : ∃ R, R = mulE c D := ⟨_, rfl⟩
  rw [← hR]
  have HWB := Lib.hid hwb
  have HB := Lib.hid HR.out.2
  have d0 := HR.out.1.c0
  have d1 := HR.out.1.c1
  have d2 := HR.out.1.c2
  have d3 := HR.out.1.c3
  have d4 := HR.out.1.c4
  have d5 := HR.out.1.c5
  have d6 := HR.out.1.c6
  have d7 := HR.out.1.c7
  have HRR := Lib.hid hR
  clear hwb h hx hR
  cases hf : fitsE c D 5 7 with
  | false =>
    rw [hf] at CM
    have HF : Hid (R = none) := Lib.hid (by rw [HRR.out]; unfold mulE; rw [if_neg (by rw [hf]; decide)])
    clear hf HRR hP
    go_enter Tryz.func36, Tryz.ntmps36
    go_upto_region 1 with fail
    change Code.wp _ _ _ _ (cBox w v c.kind c.K)
    rw [HWB.out]
    clear HWB
    go_wp2_with fail
    refine CM.out.mono ?_
    rintro e w1 ⟨rfl, b1⟩
    have B1 := Lib.hid (HB.out.trans (b1.mono HB.out.size))
    clear b1 CM d0 d1 d2 d3 d4 d5 d6 d7
    go_wp2_with fail
    go_ret2
    rw [HF.out]
    exact ⟨⟨⟨none, 0, 0⟩, rfl, IsRows.nil _⟩, B1.out⟩
  | true =>
    rw [hf] at CM
    obtain ⟨A, Bs, C, hDD, hk, ha, hb, hc⟩ := fits_three hf
    subst hDD
    obtain ⟨qA, lA⟩ := hD A (by simp)
    obtain ⟨qB, lB⟩ := hD Bs (by simp)
    obtain ⟨qC, lC⟩ := hD C (by simp)
    have hab : A.length * Bs.length ≤ 4096 := hP hf
    have HV : Hid (R = if hitsE (kindV c.kind) C A Bs = [] then none else some [ofL (h1 (hitsE (kindV c.kind) C A Bs)), ofL (h2 (hitsE (kindV c.kind) C A Bs)), ofL (h3 (hitsE (kindV c.kind) C A Bs))]) := Lib.hid (by rw [HRR.out]; exact mulE_few hf qA qB qC hab)
    have CP := Lib.hid (fun W (hW : Below wb.heap.size wb W) => pairs_any c.kind x A Bs C W (by omega) (HX.out.below hW) qA qB qC (by omega) (by omega) (by omega))
    obtain ⟨xA, xn, xc⟩ := x
    have hxn : xn = 3 := HX.out.len
    subst hxn
    obtain ⟨ad, uA, e0, c0, hA0⟩ := rows_at HX.out 0 (show 0 < 3 by omega)
    obtain ⟨ad1, uB, e1, c1, hB0⟩ := rows_at HX.out 1 (show 1 < 3 by omega)
    simp only at e0 e1
    subst e0
    obtain rfl : ad = ad1 := Option.some.inj e1
    obtain ⟨ab, ao, af⟩ := ad
    obtain ⟨aA, aN, aC⟩ := uA
    obtain ⟨bA, bN, bC⟩ := uB
    have hA1 : IsInts wb ⟨aA, aN, aC⟩ A := hA0
    have hB1 : IsInts wb ⟨bA, bN, bC⟩ Bs := hB0
    obtain rfl : aN = A.length := hA1.len
    obtain rfl : bN = Bs.length := hB1.len
    have c0 : wb.cell? ⟨ab, ao, af⟩ = some (.slice aA A.length aC) := by rw [add_zero] at c0; exact c0
    have c1 : wb.cell? ⟨ab, ao + 1, none⟩ = some (.slice bA Bs.length bC) := by simpa [Addr.add] using c1
    have HC0 := Lib.hid c0
    have HC1 := Lib.hid c1
    have t1 : decide (((A.length : Nat) : Int) * ((Bs.length : Nat) : Int) ≤ 4096) = true := by
      have : (((A.length : Nat) : Int) * ((Bs.length : Nat) : Int)) = ((A.length * Bs.length : Nat) : Int) := by simp
      simp only [this, decide_eq_true_eq]; omega
    have hwr : IntKind.i64.wrap (((A.length : Nat) : Int) * ((Bs.length : Nat) : Int)) = ((A.length : Nat) : Int) * ((Bs.length : Nat) : Int) := IntWalk.i64_in _ (by
      have : (((A.length : Nat) : Int) * ((Bs.length : Nat) : Int)) = ((A.length * Bs.length : Nat) : Int) := by simp
      omega)
    obtain ⟨hs, hhs⟩ : ∃ hs, hs = hitsE (kindV c.kind) C A Bs := ⟨_, rfl⟩
    rw [← hhs] at HV CP
    clear hf HRR hk ha hb hc qA qB qC lA lB lC hab hA0 hB0 hA1 hB1 c0 c1 e1 hhs HX hD hP
    go_enter Tryz.func36, Tryz.ntmps36
    go_upto_region 1 with fail
    change Code.wp _ _ _ _ (cBox w v c.kind c.K)
    rw [HWB.out]
    clear HWB
    go_wp2_with fail
    refine CM.out.mono ?_
    rintro e w1 ⟨rfl, b1⟩
    have B1 := Lib.hid b1
    have d0' := (b1.cell (World.block_lt_of_cell? _ _ d0)).trans d0
    have Q0 := cell_regrown ((b1.cell (World.block_lt_of_cell? _ _ HC0.out)).trans HC0.out)
    have Q1 := cell_regrown ((b1.cell (World.block_lt_of_cell? _ _ HC1.out)).trans HC1.out)
    have HD0 := Lib.hid d0'
    clear b1 CM d0 d1 d2 d3 d4 d5 d6 d7
    go_upto_region 4 with fail
    refine wp_region_quiet_below (by kernel_rfl) (by kernel_rfl) ?_
    repeat (first | go_big_quiet_step (fail) | quiet_step (fail))
    refine wpQuiet_nil ?_
    intro _ hw'
    obtain ⟨⟨dq, osq⟩, hw''⟩ := hw'
    subst hw''
    have b5 := below_regrown w1 dq osq
    generalize grow (redrawn w1 dq) osq = w5 at *
    have B5 := Lib.hid (B1.out.trans (b5.mono B1.out.size))
    have d5 := (b5.cell (World.block_lt_of_cell? _ _ HD0.out)).trans HD0.out
    have CPP := Lib.hid (CP.out w5 B5.out)
    clear Q0 Q1 b5 d0' HD0 B1 CP HC0 HC1
    cases he : decide (hs ≠ []) with
    | false =>
      have hne : hs = [] := by simpa using he
      rw [he, if_pos hne] at CPP
      have HF : Hid (R = none) := Lib.hid (by rw [HV.out, if_pos hne])
      clear he hne HV
      go_wp2_with fail
      refine CPP.out.mono ?_
      rintro e w6 ⟨⟨y, rfl, hy⟩, b6⟩
      have HY := Lib.hid hy
      have B6 := Lib.hid (HB.out.trans ((B5.out.trans (b6.mono B5.out.size)).mono HB.out.size))
      clear hy b6 CPP
      go_wp2_with fail
      go_ret2
      rw [HF.out]
      exact ⟨⟨y, rfl, HY.out⟩, B6.out⟩
    | true =>
      have hne : hs ≠ [] := by simpa using he
      rw [he, if_neg hne] at CPP
      have HF : Hid (R = some [ofL (h1 hs), ofL (h2 hs), ofL (h3 hs)]) := Lib.hid (by rw [HV.out, if_neg hne])
      clear he hne HV
      go_wp2_with fail
      refine CPP.out.mono ?_
      rintro e w6 ⟨⟨y, rfl, hy⟩, b6⟩
      have HY := Lib.hid hy
      have B6 := Lib.hid (HB.out.trans ((B5.out.trans (b6.mono B5.out.size)).mono HB.out.size))
      clear hy b6 CPP
      go_wp2_with fail
      go_ret2
      rw [HF.out]
      exact ⟨⟨y, rfl, HY.out⟩, B6.out⟩
theorem refmul_few (v : ConV) (c : ConL) (x : Sl) (D : List (List Int)) (w : World) (h : ConIn w v c) (hx : IsRows w x D) (hD : ∀ l ∈ D, DomL l ∧ l.length ≤ 60) :
    Calls Tryz.prog 36 #[v.val c.kind c.K, .slice x.A x.n x.c] w fun e w' => (∃ y : Sl, e = .returned (.tuple #[.slice y.A y.n y.c, .bool (mulE c D).isSome]) ∧ IsRows w' y ((mulE c D).getD [])) ∧ Below w.heap.size w w' :=
  refmul_pairs v c x D w h hx (fun l hl => ⟨(hD l hl).1, by have := (hD l hl).2; omega⟩) fun hf => by
    obtain ⟨A, Bs, C, rfl, -⟩ := fits_three hf
    exact Nat.le_trans (Nat.mul_le_mul (hD A (by simp)).2 (hD Bs (by simp)).2) (by omega)
end Go.Proofs.YtkhmocbfkpbpfaaGreatDoor

/- Contract of the document's ends (layer 11): a list's first and last number. -/
namespace Go.Proofs.YtkhmocbfkpbpfaaGreatDoor
open Go.RowKit Go.Sort

set_option maxHeartbeats 2000000 in
set_option maxRecDepth 100000 in
theorem ends_any (x : Sl) (L : List Int) (w : World) (h : IsInts w x L) (h0 : 0 < L.length) (hb : L.length ≤ 200000) :
    Calls Tryz.prog 87 #[.slice x.A x.n x.c] w fun e w' => e = .returned (.tuple #[.int .i64 (L.head?.getD 0), .int .i64 (L.getLast?.getD 0)]) ∧ Below w.heap.size w w' := by
  obtain ⟨A, n, c⟩ := x
  have hn : n = L.length := h.len
  subst hn
  obtain ⟨ad, eA, hbk, hcl⟩ := h.lies (show 0 < L.length by omega)
  have eA : A = some ad := eA
  subst eA
  have v0 : w.cell? ad = some (.int .i64 (L.head?.getD 0)) := by
    have := hcl 0 (by show 0 < L.length; exact h0)
    rw [add_zero] at this
    rw [this]
    cases L with
    | nil => simp at h0
    | cons a l => rfl
  have v1 : w.cell? (ad.add (L.length - 1)) = some (.int .i64 (L.getLast?.getD 0)) := by
    rw [hcl (L.length - 1) (by show L.length - 1 < L.length; omega)]
    show some (Value.int .i64 (L.getD (L.length - 1) 0)) = _
    rw [List.getLast?_eq_getElem?, List.getD_eq_getElem?_getD]
  have q0 := cell_regrown v0
  have q1 := cell_regrown v1
  have w1 : IntKind.i64.wrap (((L.length : Nat) : Int) - 1) = ((L.length - 1 : Nat) : Int) := by rw [show ((L.length : Nat) : Int) - 1 = ((L.length - 1 : Nat) : Int) by omega]; exact IntWalk.i64_in _ (by omega)
  have hlt : L.length - 1 < L.length := by omega
  clear h hcl hbk v0 v1
  generalize L.head?.getD 0 = a0 at *
  generalize L.getLast?.getD 0 = a1 at *
  obtain ⟨m, hm⟩ : ∃ m, m = L.length - 1 := ⟨_, rfl⟩
  obtain ⟨ln, hl⟩ : ∃ ln, ln = L.length := ⟨_, rfl⟩
  rw [← hm] at q1 w1 hlt
  rw [← hl] at w1 hlt h0 hb ⊢
  clear hm hl
  go_enter Tryz.func87, Tryz.ntmps87
  go_upto_region 1 with fail
  refine wp_region_quiet_below (by kernel_rfl) (by kernel_rfl) ?_
  repeat (first | go_big_quiet_step (fail) | quiet_step (fail))
  refine wpQuiet_nil ?_
  intro _ hw'
  obtain ⟨⟨dq, osq⟩, hw''⟩ := hw'
  subst hw''
  have b5 := below_regrown w dq osq
  generalize grow (redrawn w dq) osq = w5 at *
  have B5 := Lib.hid b5
  clear q0 q1 b5
  go_wp2_with fail
  go_ret2
  exact ⟨rfl, B5.out⟩
end Go.Proofs.YtkhmocbfkpbpfaaGreatDoor

/- Contract of the document's Filter (layer 11) of a quotient or a remainder, where many pairs are. -/
namespace Go.Proofs.YtkhmocbfkpbpfaaGreatDoor
open Go.RowKit Go.Sort

/-- Three slices of numbers in a block of their own. -/
theorem rows_three {W : World} {g : Nat} {a b c : Sl} {A B C : List Int} (h : W.heap[g]? = some (.cells #[.slice a.A a.n a.c, .slice b.A b.n b.c, .slice c.A c.n c.c] 30 (0, 0))) (ha : IsInts W a A) (hb : IsInts W b B) (hc : IsInts W c C) :
    IsRows W ⟨some ⟨g, 0, none⟩, 3, 3⟩ [A, B, C] := by
  refine ⟨rfl, by simp, fun _ => ⟨_, rfl, (Array.getElem?_eq_some_iff.1 h).1, fun i hi => ?_⟩⟩
  rw [Addr.add_mid, Nat.zero_add]
  match i, hi with
  | 0, _ => exact ⟨a, box_cell h rfl, ha⟩
  | 1, _ => exact ⟨b, box_cell h rfl, hb⟩
  | 2, _ => exact ⟨c, box_cell h rfl, hc⟩

set_option maxHeartbeats 4000000 in
set_option maxRecDepth 100000 in
theorem refmul_many67 (v : ConV) (c : ConL) (x : Sl) (A Bs C : List Int) (w : World) (h : ConIn w v c) (hx : IsRows w x [A, Bs, C]) (hf : fitsE c [A, Bs, C] 5 7 = true) (hk : c.kind = 6 ∨ c.kind = 7) (hab : 4096 < A.length * Bs.length) (lA : A.length ≤ 200000) (lB : Bs.length ≤ 200000) (ha : A ≠ []) (hb : Bs ≠ []) (hc : C ≠ []) :
    Calls Tryz.prog 36 #[v.val c.kind c.K, .slice x.A x.n x.c] w fun e w' => (∃ y : Sl, e = .returned (.tuple #[.slice y.A y.n y.c, .bool (mulE c [A, Bs, C]).isSome]) ∧ IsRows w' y ((mulE c [A, Bs, C]).getD [])) ∧ Below w.heap.size w w' := by
  obtain ⟨wb, hwb⟩ : ∃ wb, cBox w v c.kind c.K = wb := ⟨_, rfl⟩
  have HR : Hid (RBox w.heap.size wb v c ⟨none, 0, 0⟩ [] ∧ Below w.heap.size w wb) := Lib.hid (hwb ▸ ⟨RBox.start h (IsInts.nil _), cBox_below _ _ _ _⟩)
  have HX := Lib.hid (hx.below HR.out.2)
  have CM := Lib.hid (fits_any v c x [A, Bs, C] 5 7 wb HR.out.1.con HX.out)
  rw [hf] at CM
  have hR : mulE c [A, Bs, C] = if (Bs.filter fun u => decide (u ≠ 0)) = [] then none else some [A, Bs.filter fun u => decide (u ≠ 0), C] := by
    unfold mulE
    rw [if_pos hf]
    have e0 : ([A, Bs, C] : List (List Int)).getD 0 [] = A := rfl
    have e1 : ([A, Bs, C] : List (List Int)).getD 1 [] = Bs := rfl
    have e2 : ([A, Bs, C] : List (List Int)).getD 2 [] = C := rfl
    have hm : mulL c.kind A Bs C = [A, Bs.filter fun u => decide (u ≠ 0), C] := by
      unfold mulL
      rw [if_neg (by omega), if_neg (by omega)]
    rw [e0, e1, e2, hm]
    have z1 : (A.length == 0) = false := by simp [ha]
    have z3 : (C.length == 0) = false := by simp [hc]
    by_cases g : (Bs.filter fun u => decide (u ≠ 0)) = []
    · rw [if_pos g, g]; simp
    · rw [if_neg g, if_neg]
      have z2 : ((Bs.filter fun u => decide (u ≠ 0)).length == 0) = false := by
        rw [beq_eq_false_iff_ne]; exact fun q => g (List.eq_nil_of_length_eq_zero q)
      rw [List.any_cons, List.any_cons, List.any_cons, List.any_nil, z1, z2, z3]
      decide
  have hBf : (Bs.filter fun u => decide (u ≠ 0)).length ≤ 200000 := Nat.le_trans (List.length_filter_le _ _) lB
  have hkeep : Bs.filter (D.keepB 0 0 []) = Bs.filter fun u => decide (u ≠ 0) := by
    apply List.filter_congr
    intro u _
    unfold D.keepB
    rw [if_pos rfl]
  obtain ⟨R, hRR⟩ : ∃ R, R = mulE c [A, Bs, C] := ⟨_, rfl⟩
  rw [← hRR] at hR ⊢
  have HV := Lib.hid hR
  have HWB := Lib.hid hwb
  have HB := Lib.hid HR.out.2
  have d0 := HR.out.1.c0
  have d1 := HR.out.1.c1
  have d2 := HR.out.1.c2
  have d3 := HR.out.1.c3
  have d4 := HR.out.1.c4
  have d5 := HR.out.1.c5
  have d6 := HR.out.1.c6
  have d7 := HR.out.1.c7
  obtain ⟨xA, xn, xc⟩ := x
  have hxn : xn = 3 := HX.out.len
  subst hxn
  obtain ⟨ad, uA, e0, c0, hA0⟩ := rows_at HX.out 0 (show 0 < 3 by omega)
  obtain ⟨ad1, uB, e1, c1, hB0⟩ := rows_at HX.out 1 (show 1 < 3 by omega)
  obtain ⟨ad2, uC, e2, c2, hC0⟩ := rows_at HX.out 2 (show 2 < 3 by omega)
  simp only at e0 e1 e2
  subst e0
  obtain rfl : ad = ad1 := Option.some.inj e1
  obtain rfl : ad = ad2 := Option.some.inj e2
  obtain ⟨ab, ao, af⟩ := ad
  obtain ⟨aA, aN, aC⟩ := uA
  obtain ⟨bA, bN, bC⟩ := uB
  obtain ⟨cA, cN, cC⟩ := uC
  have hA1 : IsInts wb ⟨aA, aN, aC⟩ A := hA0
  have hB1 : IsInts wb ⟨bA, bN, bC⟩ Bs := hB0
  have hC1 : IsInts wb ⟨cA, cN, cC⟩ C := hC0
  obtain rfl : aN = A.length := hA1.len
  obtain rfl : bN = Bs.length := hB1.len
  obtain rfl : cN = C.length := hC1.len
  have hBp : 0 < Bs.length := List.length_pos_iff.2 hb
  have hCp : 0 < C.length := List.length_pos_iff.2 hc
  obtain ⟨bd, eB, hbb, hbc⟩ := hB1.lies hBp
  have eB : bA = some bd := eB
  subst eB
  have c0 : wb.cell? ⟨ab, ao, af⟩ = some (.slice aA A.length aC) := by rw [add_zero] at c0; exact c0
  have c1 : wb.cell? ⟨ab, ao + 1, none⟩ = some (.slice (some bd) Bs.length bC) := by simpa [Addr.add] using c1
  have c2 : wb.cell? ⟨ab, ao + 2, none⟩ = some (.slice cA C.length cC) := by simpa [Addr.add] using c2
  have HC0 := Lib.hid c0
  have HC1 := Lib.hid c1
  have HC2 := Lib.hid c2
  have HAI := Lib.hid hA1
  have HBI := Lib.hid hB1
  have HCI := Lib.hid hC1
  have t1 : decide (((A.length : Nat) : Int) * ((Bs.length : Nat) : Int) ≤ 4096) = false := by
    have : (((A.length : Nat) : Int) * ((Bs.length : Nat) : Int)) = ((A.length * Bs.length : Nat) : Int) := by simp
    simp only [this, decide_eq_false_iff_not]; omega
  have hpl : A.length * Bs.length ≤ 200000 * 200000 := Nat.mul_le_mul lA lB
  have hwr : IntKind.i64.wrap (((A.length : Nat) : Int) * ((Bs.length : Nat) : Int)) = ((A.length : Nat) : Int) * ((Bs.length : Nat) : Int) := IntWalk.i64_in _ (by
    have : (((A.length : Nat) : Int) * ((Bs.length : Nat) : Int)) = ((A.length * Bs.length : Nat) : Int) := by simp
    omega)
  have hk5 : (c.kind == 5) = false := by rw [beq_eq_false_iff_ne]; omega
  have CK : Hid (∀ W, Below wb.heap.size wb W → Calls Tryz.prog 89 #[.slice (some bd) Bs.length bC, .int .i64 0, .int .i64 0, .slice none 0 0] W (GivesOf W (Bs.filter fun u => decide (u ≠ 0)) (D.chg Bs (Bs.filter fun u => decide (u ≠ 0))))) := Lib.hid (fun W hW => by
    have hl := (HBI.out.below hW).lies hBp
    obtain ⟨bd', eB', hbb', hbc'⟩ := hl
    have eB' : some bd = some bd' := eB'
    obtain rfl := Option.some.inj eB'
    have := D.refkeep0 bd none Bs [] Bs.length 0 bC 0 0 W rfl rfl hBp (by omega) (by omega) hbb' hbc' (Lies.none _ _ _)
    rw [hkeep] at this
    exact this)
  obtain ⟨Bf, hBfE⟩ : ∃ Bf, Bf = Bs.filter fun u => decide (u ≠ 0) := ⟨_, rfl⟩
  rw [← hBfE] at CK HV hBf
  generalize D.chg Bs Bf = er at CK
  clear hf hRR hR hk ha hb hc hab hkeep hA0 hB0 hC0 hA1 hB1 hC1 c0 c1 c2 e1 e2 HX hbc hbb hwb h hx hBfE hpl lA
  go_enter Tryz.func36, Tryz.ntmps36
  go_upto_region 1 with fail
  change Code.wp _ _ _ _ (cBox w v c.kind c.K)
  rw [HWB.out]
  clear HWB
  go_wp2_with fail
  refine CM.out.mono ?_
  rintro e w1 ⟨rfl, b1⟩
  have B1 := Lib.hid b1
  have HD0 := Lib.hid ((b1.cell (World.block_lt_of_cell? _ _ d0)).trans d0)
  have Q0 := cell_regrown ((b1.cell (World.block_lt_of_cell? _ _ HC0.out)).trans HC0.out)
  have Q1 := cell_regrown ((b1.cell (World.block_lt_of_cell? _ _ HC1.out)).trans HC1.out)
  clear b1 CM d0 d1 d2 d3 d4 d5 d6 d7
  go_upto_region 4 with fail
  refine wp_region_quiet_below (by kernel_rfl) (by kernel_rfl) ?_
  repeat (first | go_big_quiet_step (fail) | quiet_step (fail))
  refine wpQuiet_nil ?_
  intro _ hw'
  obtain ⟨⟨dq, osq⟩, hw''⟩ := hw'
  subst hw''
  have b5 := below_regrown w1 dq osq
  generalize grow (redrawn w1 dq) osq = w5 at *
  have B5 := Lib.hid (B1.out.trans (b5.mono B1.out.size))
  have d5 := (b5.cell (World.block_lt_of_cell? _ _ HD0.out)).trans HD0.out
  have p0 := (B5.out.cell (World.block_lt_of_cell? _ _ HC0.out)).trans HC0.out
  have p1 := (B5.out.cell (World.block_lt_of_cell? _ _ HC1.out)).trans HC1.out
  have p2 := (B5.out.cell (World.block_lt_of_cell? _ _ HC2.out)).trans HC2.out
  clear Q0 Q1 b5 HD0 B1 HC0 HC1 HC2
  go_wp2_with fail
  refine (CK.out w5 B5.out).mono ?_
  rintro e w6 ⟨v6, rfl, h6, b6⟩
  obtain ⟨Y6, k6, rfl⟩ := slice_row h6
  have B6 := Lib.hid (B5.out.trans (b6.mono B5.out.size))
  have HY6 : Hid (IsInts w6 ⟨Y6, Bf.length, k6⟩ Bf) := Lib.hid (ints_own (y := ⟨Y6, Bf.length, k6⟩) h6 (by omega))
  clear h6 b6 CK d5 p0 p1 p2
  have z2 : (((C.length : Nat) : Int) == 0) = false := by rw [beq_eq_false_iff_ne]; omega
  by_cases g : Bf.length = 0
  · have HF : Hid (R = none) := Lib.hid (by rw [HV.out, if_pos (List.eq_nil_of_length_eq_zero g)])
    rw [g]
    clear HV g HY6
    go_wp2_with fail
    go_ret2
    rw [HF.out]
    exact ⟨⟨⟨none, 0, 0⟩, rfl, IsRows.nil _⟩, HB.out.trans (B6.out.mono HB.out.size)⟩
  · have HF : Hid (R = some [A, Bf, C]) := Lib.hid (by rw [HV.out, if_neg (fun q => g (by rw [q]; rfl))])
    have z1 : (((Bf.length : Nat) : Int) == 0) = false := by rw [beq_eq_false_iff_ne]; omega
    obtain ⟨w7, hw7⟩ : ∃ w7, w6.alloc (.cells #[.slice aA A.length aC, .slice Y6 Bf.length k6, .slice cA C.length cC] 30) = w7 := ⟨_, rfl⟩
    have h7 := heap_new w6 (.cells #[.slice aA A.length aC, .slice Y6 Bf.length k6, .slice cA C.length cC] 30)
    rw [hw7] at h7
    have b7 : Below w6.heap.size w6 w7 := hw7 ▸ below1 w6 _
    have B7 := Lib.hid (B6.out.trans (b7.mono B6.out.size))
    have HRR : Hid (IsRows w7 ⟨some ⟨w6.heap.size, 0, none⟩, 3, 3⟩ [A, Bf, C]) := Lib.hid (rows_three (a := ⟨aA, A.length, aC⟩) (b := ⟨Y6, Bf.length, k6⟩) (c := ⟨cA, C.length, cC⟩) h7 (HAI.out.below B7.out) (HY6.out.below b7) (HCI.out.below B7.out))
    clear HV g HY6 h7 b7
    go_wp2_with fail
    go_ret2
    rw [HF.out]
    exact ⟨⟨⟨some ⟨w6.heap.size, 0, none⟩, 3, 3⟩, rfl, HRR.out⟩, HB.out.trans (B7.out.mono HB.out.size)⟩
end Go.Proofs.YtkhmocbfkpbpfaaGreatDoor
