/- Numbers one behind the other are a domain's. No walk. -/
import Derived.Test.YtkhmocbfkpbpfaaGreatDoorMul6
import Derived.Test.YtkhmocbfkpbpfaaGreatDoorDKeep
import Derived.Test.YtkhmocbfkpbpfaaGreatDoorMrd8
import Derived.Test.YtkhmocbfkpbpfaaGreatDoorDRefOf
import Derived.Test.YtkhmocbfkpbpfaaGreatDoorMshapes
namespace Go.Proofs.YtkhmocbfkpbpfaaGreatDoor
open Go.RowKit

theorem rangeFrom_in {a v : Int} {n : Nat} (h : v ∈ rangeFrom a n) : a ≤ v ∧ v < a + (n : Int) := by
  unfold rangeFrom at h
  obtain ⟨i, hi, rfl⟩ := List.mem_map.1 h
  have := List.mem_range.1 hi
  omega
theorem rangeFrom_dom {a : Int} {n : Nat} (ha : -40000 ≤ a ∧ a ≤ 40000) (hn : n ≤ 200) : DomL (rangeFrom a n) := by
  refine ⟨?_, fun hne => ?_⟩
  · unfold rangeFrom
    rw [List.pairwise_map]
    exact List.pairwise_lt_range.imp fun h => by omega
  · unfold ofErr
    rw [if_neg (by simpa using hne), if_neg, if_neg]
    · intro e
      rw [List.any_eq_true] at e
      obtain ⟨u, hu, e⟩ := e
      rw [List.any_eq_true] at e
      obtain ⟨v, hv, e⟩ := e
      have h1 := rangeFrom_in hu
      have h2 := rangeFrom_in hv
      simp at e
      omega
    · intro e
      rw [List.any_eq_true] at e
      obtain ⟨u, hu, e⟩ := e
      have h1 := rangeFrom_in hu
      simp [mayB] at e
      omega
end Go.Proofs.YtkhmocbfkpbpfaaGreatDoor

/- Contract of the document's Filter (layer 11) of a product, where many pairs are. -/
namespace Go.Proofs.YtkhmocbfkpbpfaaGreatDoor
open Go.RowKit Go.Sort

theorem mul_lim {u v : Int} (hu : -1000000 ≤ u ∧ u ≤ 1000000) (hv : -1000000 ≤ v ∧ v ≤ 1000000) : -1000000000000 ≤ u * v ∧ u * v ≤ 1000000000000 := by
  have h1 : (u * v).natAbs = u.natAbs * v.natAbs := Int.natAbs_mul u v
  have h2 : u.natAbs * v.natAbs ≤ 1000000 * 1000000 := Nat.mul_le_mul (by omega) (by omega)
  omega
/-- The least, the greatest of the first ones of four numbers. -/
def lowTo (a b c d : Int) : Nat → Int
  | 0 => a
  | 1 => min a b
  | 2 => min (min a b) c
  | _ => min (min (min a b) c) d
def highTo (a b c d : Int) : Nat → Int
  | 0 => a
  | 1 => max a b
  | 2 => max (max a b) c
  | _ => max (max (max a b) c) d
theorem lowTo_step {a b c d : Int} {k : Nat} (hk : k < 3) : lowTo a b c d (k + 1) = if [b, c, d].getD k 0 < lowTo a b c d k then [b, c, d].getD k 0 else lowTo a b c d k := by
  match k, hk with
  | 0, _ => show min a b = if b < a then b else a; rw [Int.min_def]; split <;> split <;> omega
  | 1, _ => show min (min a b) c = if c < min a b then c else min a b; rw [Int.min_def (min a b) c]; split <;> split <;> omega
  | 2, _ => show min (min (min a b) c) d = if d < min (min a b) c then d else min (min a b) c; rw [Int.min_def (min (min a b) c) d]; split <;> split <;> omega
theorem highTo_step {a b c d : Int} {k : Nat} (hk : k < 3) : highTo a b c d (k + 1) = if highTo a b c d k < [b, c, d].getD k 0 then [b, c, d].getD k 0 else highTo a b c d k := by
  match k, hk with
  | 0, _ => show max a b = if a < b then b else a; rw [Int.max_def]; split <;> split <;> omega
  | 1, _ => show max (max a b) c = if max a b < c then c else max a b; rw [Int.max_def (max a b) c]; split <;> split <;> omega
  | 2, _ => show max (max (max a b) c) d = if max (max a b) c < d then d else max (max a b) c; rw [Int.max_def (max (max a b) c) d]; split <;> split <;> omega

set_option maxHeartbeats 4000000 in
set_option maxRecDepth 100000 in
theorem refmul_many5 (v : ConV) (c : ConL) (x : Sl) (A Bs C : List Int) (w : World) (h : ConIn w v c) (hx : IsRows w x [A, Bs, C]) (hf : fitsE c [A, Bs, C] 5 7 = true) (hk : c.kind = 5) (hab : 4096 < A.length * Bs.length) (lA : A.length ≤ 200000) (lB : Bs.length ≤ 200000) (lC : C.length ≤ 200000) (bA : ∀ v ∈ A, -1000000 ≤ v ∧ v ≤ 1000000) (bB : ∀ v ∈ Bs, -1000000 ≤ v ∧ v ≤ 1000000) (ha : A ≠ []) (hb : Bs ≠ []) (hc : C ≠ []) :
    Calls Tryz.prog 36 #[v.val c.kind c.K, .slice x.A x.n x.c] w fun e w' => (∃ y : Sl, e = .returned (.tuple #[.slice y.A y.n y.c, .bool (mulE c [A, Bs, C]).isSome]) ∧ IsRows w' y ((mulE c [A, Bs, C]).getD [])) ∧ Below w.heap.size w w' := by
  obtain ⟨wb, hwb⟩ : ∃ wb, cBox w v c.kind c.K = wb := ⟨_, rfl⟩
  have HR : Hid (RBox w.heap.size wb v c ⟨none, 0, 0⟩ [] ∧ Below w.heap.size w wb) := Lib.hid (hwb ▸ ⟨RBox.start h (IsInts.nil _), cBox_below _ _ _ _⟩)
  have HX := Lib.hid (hx.below HR.out.2)
  have CM := Lib.hid (fits_any v c x [A, Bs, C] 5 7 wb HR.out.1.con HX.out)
  rw [hf] at CM
  have hR : mulE c [A, Bs, C] = if betweenE C (lowP A Bs) (highP A Bs) = [] then none else some [A, Bs, betweenE C (lowP A Bs) (highP A Bs)] := by
    unfold mulE
    rw [if_pos hf]
    have e0 : ([A, Bs, C] : List (List Int)).getD 0 [] = A := rfl
    have e1 : ([A, Bs, C] : List (List Int)).getD 1 [] = Bs := rfl
    have e2 : ([A, Bs, C] : List (List Int)).getD 2 [] = C := rfl
    have hbt : ((C.filter fun u => decide (lowP A Bs ≤ u)).filter fun u => decide (u ≤ highP A Bs)) = betweenE C (lowP A Bs) (highP A Bs) := by
      unfold betweenE
      rw [List.filter_filter]
      apply List.filter_congr
      intro u _
      by_cases g1 : lowP A Bs ≤ u <;> by_cases g2 : u ≤ highP A Bs <;> simp [g1, g2]
    have hm : mulL c.kind A Bs C = [A, Bs, betweenE C (lowP A Bs) (highP A Bs)] := by
      unfold mulL
      rw [if_neg (by omega), if_pos hk, hbt]
    rw [e0, e1, e2, hm]
    have z1 : (A.length == 0) = false := by simp [ha]
    have z3 : (Bs.length == 0) = false := by simp [hb]
    by_cases g : betweenE C (lowP A Bs) (highP A Bs) = []
    · rw [if_pos g, g]; simp
    · rw [if_neg g, if_neg]
      have z2 : ((betweenE C (lowP A Bs) (highP A Bs)).length == 0) = false := by
        rw [beq_eq_false_iff_ne]; exact fun q => g (List.eq_nil_of_length_eq_zero q)
      rw [List.any_cons, List.any_cons, List.any_cons, List.any_nil, z1, z2, z3]
      decide
  have hBf : ∀ lo hi, (betweenE C lo hi).length ≤ 200000 := fun lo hi => Nat.le_trans (List.length_filter_le _ _) lC
  have hAp : 0 < A.length := List.length_pos_iff.2 ha
  have hh : ∀ L : List Int, L ≠ [] → (∀ v ∈ L, -1000000 ≤ v ∧ v ≤ 1000000) → (-1000000 ≤ L.head?.getD 0 ∧ L.head?.getD 0 ≤ 1000000) ∧ (-1000000 ≤ L.getLast?.getD 0 ∧ L.getLast?.getD 0 ≤ 1000000) := by
    intro L hL hb
    refine ⟨?_, ?_⟩
    · rw [List.head?_eq_some_head hL]; exact hb _ (List.head_mem hL)
    · rw [List.getLast?_eq_some_getLast hL]; exact hb _ (List.getLast_mem hL)
  obtain ⟨ba1, ba2⟩ := hh A ha bA
  obtain ⟨bb1, bb2⟩ := hh Bs hb bB
  have hlow : lowP A Bs = lowTo (A.head?.getD 0 * Bs.head?.getD 0) (A.head?.getD 0 * Bs.getLast?.getD 0) (A.getLast?.getD 0 * Bs.head?.getD 0) (A.getLast?.getD 0 * Bs.getLast?.getD 0) 3 := rfl
  have hhigh : highP A Bs = highTo (A.head?.getD 0 * Bs.head?.getD 0) (A.head?.getD 0 * Bs.getLast?.getD 0) (A.getLast?.getD 0 * Bs.head?.getD 0) (A.getLast?.getD 0 * Bs.getLast?.getD 0) 3 := rfl
  rw [hlow, hhigh] at hR
  obtain ⟨R, hRR⟩ : ∃ R, R = mulE c [A, Bs, C] := ⟨_, rfl⟩
  rw [← hRR] at hR ⊢
  have HV := Lib.hid hR
  have HWB := Lib.hid hwb
  have HB := Lib.hid HR.out.2
  have d0 := HR.out.1.c0
  have d1 := HR.out.1.c1
  have d2 := HR.out.1.c2
  have d3 := HR.out.1.c3
  have d4 := HR.out.1.c4
  have d5 := HR.out.1.c5
  have d6 := HR.out.1.c6
  have d7 := HR.out.1.c7
  obtain ⟨xA, xn, xc⟩ := x
  have hxn : xn = 3 := HX.out.len
  subst hxn
  obtain ⟨ad, uA, e0, c0, hA0⟩ := rows_at HX.out 0 (show 0 < 3 by omega)
  obtain ⟨ad1, uB, e1, c1, hB0⟩ := rows_at HX.out 1 (show 1 < 3 by omega)
  obtain ⟨ad2, uC, e2, c2, hC0⟩ := rows_at HX.out 2 (show 2 < 3 by omega)
  simp only at e0 e1 e2
  subst e0
  obtain rfl : ad = ad1 := Option.some.inj e1
  obtain rfl : ad = ad2 := Option.some.inj e2
  obtain ⟨ab, ao, af⟩ := ad
  obtain ⟨aA, aN, aC⟩ := uA
  obtain ⟨bA, bN, bC⟩ := uB
  obtain ⟨cA, cN, cC⟩ := uC
  have hA1 : IsInts wb ⟨aA, aN, aC⟩ A := hA0
  have hB1 : IsInts wb ⟨bA, bN, bC⟩ Bs := hB0
  have hC1 : IsInts wb ⟨cA, cN, cC⟩ C := hC0
  obtain rfl : aN = A.length := hA1.len
  obtain rfl : bN = Bs.length := hB1.len
  obtain rfl : cN = C.length := hC1.len
  have hBp : 0 < Bs.length := List.length_pos_iff.2 hb
  have hCp : 0 < C.length := List.length_pos_iff.2 hc
  obtain ⟨bd, eB, hbb, hbc⟩ := hB1.lies hBp
  have eB : bA = some bd := eB
  subst eB
  have c0 : wb.cell? ⟨ab, ao, af⟩ = some (.slice aA A.length aC) := by rw [add_zero] at c0; exact c0
  have c1 : wb.cell? ⟨ab, ao + 1, none⟩ = some (.slice (some bd) Bs.length bC) := by simpa [Addr.add] using c1
  have c2 : wb.cell? ⟨ab, ao + 2, none⟩ = some (.slice cA C.length cC) := by simpa [Addr.add] using c2
  have HC0 := Lib.hid c0
  have HC1 := Lib.hid c1
  have HC2 := Lib.hid c2
  have HAI := Lib.hid hA1
  have HBI := Lib.hid hB1
  have HCI := Lib.hid hC1
  have t1 : decide (((A.length : Nat) : Int) * ((Bs.length : Nat) : Int) ≤ 4096) = false := by
    have : (((A.length : Nat) : Int) * ((Bs.length : Nat) : Int)) = ((A.length * Bs.length : Nat) : Int) := by simp
    simp only [this, decide_eq_false_iff_not]; omega
  have hpl : A.length * Bs.length ≤ 200000 * 200000 := Nat.mul_le_mul lA lB
  have hwr : IntKind.i64.wrap (((A.length : Nat) : Int) * ((Bs.length : Nat) : Int)) = ((A.length : Nat) : Int) * ((Bs.length : Nat) : Int) := IntWalk.i64_in _ (by
    have : (((A.length : Nat) : Int) * ((Bs.length : Nat) : Int)) = ((A.length * Bs.length : Nat) : Int) := by simp
    omega)
  have hk5 : (c.kind == 5) = true := by simp [hk]
  have EA : Hid (∀ W, Below wb.heap.size wb W → Calls Tryz.prog 87 #[.slice aA A.length aC] W fun e w' => e = .returned (.tuple #[.int .i64 (A.head?.getD 0), .int .i64 (A.getLast?.getD 0)]) ∧ Below W.heap.size W w') := Lib.hid (fun W hW => ends_any ⟨aA, A.length, aC⟩ A W (HAI.out.below hW) hAp lA)
  have EB : Hid (∀ W, Below wb.heap.size wb W → Calls Tryz.prog 87 #[.slice (some bd) Bs.length bC] W fun e w' => e = .returned (.tuple #[.int .i64 (Bs.head?.getD 0), .int .i64 (Bs.getLast?.getD 0)]) ∧ Below W.heap.size W w') := Lib.hid (fun W hW => ends_any ⟨some bd, Bs.length, bC⟩ Bs W (HBI.out.below hW) hBp lB)
  have CB : Hid (∀ lo hi W, Below wb.heap.size wb W → Calls Tryz.prog 88 #[.slice cA C.length cC, .int .i64 lo, .int .i64 hi] W fun e w' => (∃ y : Sl, e = .returned (.slice y.A y.n y.c) ∧ Row3 w' W.heap.size y (betweenE C lo hi)) ∧ Below W.heap.size W w') := Lib.hid (fun lo hi W hW => between_of ⟨cA, C.length, cC⟩ C lo hi W (HCI.out.below hW) lC)
  have hzA : (((Bs.length : Nat) : Int) == 0) = false := by rw [beq_eq_false_iff_ne]; omega
  clear hlow hhigh
  generalize A.head?.getD 0 = a1 at *
  generalize A.getLast?.getD 0 = a2 at *
  generalize Bs.head?.getD 0 = p1 at *
  generalize Bs.getLast?.getD 0 = p2 at *
  have lim : ∀ u v : Int, (-1000000 ≤ u ∧ u ≤ 1000000) → (-1000000 ≤ v ∧ v ≤ 1000000) → -1000000000000 ≤ u * v ∧ u * v ≤ 1000000000000 := fun u v hu hv => mul_lim hu hv
  have l1 := lim a1 p1 ba1 bb1
  have l2 := lim a1 p2 ba1 bb2
  have l3 := lim a2 p1 ba2 bb1
  have l4 := lim a2 p2 ba2 bb2
  have W1 : IntKind.i64.wrap (a1 * p1) = a1 * p1 := IntWalk.i64_in _ (by omega)
  have W2 : IntKind.i64.wrap (a1 * p2) = a1 * p2 := IntWalk.i64_in _ (by omega)
  have W3 : IntKind.i64.wrap (a2 * p1) = a2 * p1 := IntWalk.i64_in _ (by omega)
  have W4 : IntKind.i64.wrap (a2 * p2) = a2 * p2 := IntWalk.i64_in _ (by omega)
  clear lim l1 l2 l3 l4 ba1 ba2 bb1 bb2 hh
  clear hf hRR hR hk ha hb hc hab hA0 hB0 hC0 hA1 hB1 hC1 c0 c1 c2 e1 e2 HX hbc hbb hwb h hx hpl lA lB lC bA bB
  go_enter Tryz.func36, Tryz.ntmps36
  go_upto_region 1 with fail
  change Code.wp _ _ _ _ (cBox w v c.kind c.K)
  rw [HWB.out]
  clear HWB
  go_wp2_with fail
  refine CM.out.mono ?_
  rintro e w1 ⟨rfl, b1⟩
  have B1 := Lib.hid b1
  have HD0 := Lib.hid ((b1.cell (World.block_lt_of_cell? _ _ d0)).trans d0)
  have Q0 := cell_regrown ((b1.cell (World.block_lt_of_cell? _ _ HC0.out)).trans HC0.out)
  have Q1 := cell_regrown ((b1.cell (World.block_lt_of_cell? _ _ HC1.out)).trans HC1.out)
  clear b1 CM d0 d1 d2 d3 d4 d5 d6 d7
  go_upto_region 4 with fail
  refine wp_region_quiet_below (by kernel_rfl) (by kernel_rfl) ?_
  repeat (first | go_big_quiet_step (fail) | quiet_step (fail))
  refine wpQuiet_nil ?_
  intro _ hw'
  obtain ⟨⟨dq, osq⟩, hw''⟩ := hw'
  subst hw''
  have b5 := below_regrown w1 dq osq
  generalize grow (redrawn w1 dq) osq = w5 at *
  have B5 := Lib.hid (B1.out.trans (b5.mono B1.out.size))
  have d5 := (b5.cell (World.block_lt_of_cell? _ _ HD0.out)).trans HD0.out
  have p0 := (B5.out.cell (World.block_lt_of_cell? _ _ HC0.out)).trans HC0.out
  have p1 := (B5.out.cell (World.block_lt_of_cell? _ _ HC1.out)).trans HC1.out
  have p2 := (B5.out.cell (World.block_lt_of_cell? _ _ HC2.out)).trans HC2.out
  clear Q0 Q1 b5 HD0 B1 HC0 HC1 HC2
  go_wp2_with fail
  refine (EA.out w5 B5.out).mono ?_
  rintro e w6 ⟨rfl, b6⟩
  have B6 := Lib.hid (B5.out.trans (b6.mono B5.out.size))
  clear EA b6 d5 p0 p1 p2
  go_wp2_with fail
  refine (EB.out w6 B6.out).mono ?_
  rintro e w7 ⟨rfl, b7⟩
  have B7 := Lib.hid (B6.out.trans (b7.mono B6.out.size))
  clear EB b7
  obtain ⟨w8, hw8⟩ : ∃ w8, w7.alloc (.cells #[.int .i64 (a1 * p2), .int .i64 (a2 * p1), .int .i64 (a2 * p2)] 3) = w8 := ⟨_, rfl⟩
  have h8 := heap_new w7 (.cells #[.int .i64 (a1 * p2), .int .i64 (a2 * p1), .int .i64 (a2 * p2)] 3)
  rw [hw8] at h8
  have b8 : Below w7.heap.size w7 w8 := hw8 ▸ below1 w7 _
  have B8 := Lib.hid (B7.out.trans (b8.mono B7.out.size))
  have H8 := Lib.hid h8
  obtain ⟨g8, hg8⟩ : ∃ g8, g8 = w7.heap.size := ⟨_, rfl⟩
  rw [← hg8] at H8
  have HG8 := Lib.hid hg8
  clear h8 b8
  go_upto_region 15 with fail
  first
    | rw [hw8]
    | skip
  rw [← HG8.out]
  clear hw8 hg8
  obtain ⟨x1, hx1⟩ : ∃ x1, x1 = a1 * p1 := ⟨_, rfl⟩
  obtain ⟨x2, hx2⟩ : ∃ x2, x2 = a1 * p2 := ⟨_, rfl⟩
  obtain ⟨x3, hx3⟩ : ∃ x3, x3 = a2 * p1 := ⟨_, rfl⟩
  obtain ⟨x4, hx4⟩ : ∃ x4, x4 = a2 * p2 := ⟨_, rfl⟩
  rw [← hx2, ← hx3, ← hx4] at H8
  rw [← hx1, ← hx2, ← hx3, ← hx4] at HV
  rw [← hx1]
  clear hx1 hx2 hx3 hx4 W1 W2 W3 W4
  have HCELL : Hid (∀ k, k < 3 → w8.cell? ⟨g8, k, none⟩ = some (.int .i64 ([x2, x3, x4].getD k 0))) := Lib.hid (fun k hk => by
    match k, hk with
    | 0, _ => exact box_cell H8.out rfl
    | 1, _ => exact box_cell H8.out rfl
    | 2, _ => exact box_cell H8.out rfl)
  go_wp2_with fail
  go_loopw [14, 15, 17] (fun lo hi i wr => ∃ (k : Nat) (x y : Int), lo = .int .i64 x ∧ hi = .int .i64 y ∧ i = .int .i64 (k : Nat) ∧ k ≤ 3 ∧ Hid (x = lowTo x1 x2 x3 x4 k ∧ y = highTo x1 x2 x3 x4 k) ∧ Hid (w8 = wr)) (fun _ _ i _ => 3 - (intOf i).toNat)
  case atStart => exact ⟨0, x1, x1, rfl, rfl, rfl, by omega, Lib.hid ⟨rfl, rfl⟩, Lib.hid (by first | rfl | trivial)⟩
  case round =>
    obtain ⟨k, x, y, rfl, rfl, rfl, hk, HXY, HW⟩ := hrel
    obtain rfl := HW.out
    by_cases hlt : k < 3
    · have hc := HCELL.out k hlt
      have HLS : Hid (lowTo x1 x2 x3 x4 (k + 1) = if [x2, x3, x4].getD k 0 < x then [x2, x3, x4].getD k 0 else x) := Lib.hid (by rw [HXY.out.1]; exact lowTo_step hlt)
      have HHS : Hid (highTo x1 x2 x3 x4 (k + 1) = if y < [x2, x3, x4].getD k 0 then [x2, x3, x4].getD k 0 else y) := Lib.hid (by rw [HXY.out.2]; exact highTo_step hlt)
      generalize [x2, x3, x4].getD k 0 = z at hc HLS HHS
      clear HXY
      by_cases g1 : z < x <;> by_cases g2 : y < z
      · have t2 : decide (z < x) = true := by simpa using g1
        have t3 : decide (y < z) = true := by simpa using g2
        have HR2 : Hid (z = lowTo x1 x2 x3 x4 (k + 1) ∧ z = highTo x1 x2 x3 x4 (k + 1)) := Lib.hid ⟨by rw [HLS.out, if_pos g1], by rw [HHS.out, if_pos g2]⟩
        clear HLS HHS g1 g2
        go_wp2_with fail
        go_roundw
        case rel => exact ⟨k + 1, _, _, rfl, rfl, by go_num, by omega, HR2, Lib.hid (by first | rfl | trivial)⟩
        case measure => simp [intOf]; omega
      · have t2 : decide (z < x) = true := by simpa using g1
        have t3 : decide (y < z) = false := by simpa using g2
        have HR2 : Hid (z = lowTo x1 x2 x3 x4 (k + 1) ∧ y = highTo x1 x2 x3 x4 (k + 1)) := Lib.hid ⟨by rw [HLS.out, if_pos g1], by rw [HHS.out, if_neg g2]⟩
        clear HLS HHS g1 g2
        go_wp2_with fail
        go_roundw
        case rel => exact ⟨k + 1, _, _, rfl, rfl, by go_num, by omega, HR2, Lib.hid (by first | rfl | trivial)⟩
        case measure => simp [intOf]; omega
      · have t2 : decide (z < x) = false := by simpa using g1
        have t3 : decide (y < z) = true := by simpa using g2
        have HR2 : Hid (x = lowTo x1 x2 x3 x4 (k + 1) ∧ z = highTo x1 x2 x3 x4 (k + 1)) := Lib.hid ⟨by rw [HLS.out, if_neg g1], by rw [HHS.out, if_pos g2]⟩
        clear HLS HHS g1 g2
        go_wp2_with fail
        go_roundw
        case rel => exact ⟨k + 1, _, _, rfl, rfl, by go_num, by omega, HR2, Lib.hid (by first | rfl | trivial)⟩
        case measure => simp [intOf]; omega
      · have t2 : decide (z < x) = false := by simpa using g1
        have t3 : decide (y < z) = false := by simpa using g2
        have HR2 : Hid (x = lowTo x1 x2 x3 x4 (k + 1) ∧ y = highTo x1 x2 x3 x4 (k + 1)) := Lib.hid ⟨by rw [HLS.out, if_neg g1], by rw [HHS.out, if_neg g2]⟩
        clear HLS HHS g1 g2
        go_wp2_with fail
        go_roundw
        case rel => exact ⟨k + 1, _, _, rfl, rfl, by go_num, by omega, HR2, Lib.hid (by first | rfl | trivial)⟩
        case measure => simp [intOf]; omega
    · obtain rfl : k = 3 := by omega
      obtain ⟨hx9, hy9⟩ := HXY.out
      rw [← hx9, ← hy9] at HV
      have hBl := hBf x y
      have CBB := Lib.hid (CB.out x y w8 B8.out)
      obtain ⟨Bt, hBt⟩ : ∃ Bt, Bt = betweenE C x y := ⟨_, rfl⟩
      rw [← hBt] at HV CBB hBl
      clear hx9 hy9 HXY hBt hBf CB HCELL H8 hlt
      go_wp2_with fail
      refine CBB.out.mono ?_
      rintro e w9 ⟨⟨y9, rfl, h9⟩, b9⟩
      have B9 := Lib.hid (B8.out.trans (b9.mono B8.out.size))
      have hY9 : IsInts w9 y9 Bt := ints_own h9 (by omega)
      have hy9 : y9.n = Bt.length := hY9.len
      have HY9 := Lib.hid hY9
      rw [hy9]
      clear hY9 h9 b9 CBB
      by_cases g : Bt.length = 0
      · have HF : Hid (R = none) := Lib.hid (by rw [HV.out, if_pos (List.eq_nil_of_length_eq_zero g)])
        rw [g]
        clear HV g HY9 hy9
        go_wp2_with fail
        go_ret2
        rw [HF.out]
        exact ⟨⟨⟨none, 0, 0⟩, rfl, IsRows.nil _⟩, HB.out.trans (B9.out.mono HB.out.size)⟩
      · have HF : Hid (R = some [A, Bs, Bt]) := Lib.hid (by rw [HV.out, if_neg (fun q => g (by rw [q]; rfl))])
        have z1 : (((Bt.length : Nat) : Int) == 0) = false := by rw [beq_eq_false_iff_ne]; omega
        obtain ⟨wA, hwA⟩ : ∃ wA, w9.alloc (.cells #[.slice aA A.length aC, .slice (some bd) Bs.length bC, .slice y9.A Bt.length y9.c] 30) = wA := ⟨_, rfl⟩
        have hA := heap_new w9 (.cells #[.slice aA A.length aC, .slice (some bd) Bs.length bC, .slice y9.A Bt.length y9.c] 30)
        rw [hwA] at hA
        have bA : Below w9.heap.size w9 wA := hwA ▸ below1 w9 _
        have BA := Lib.hid (B9.out.trans (bA.mono B9.out.size))
        have HRR : Hid (IsRows wA ⟨some ⟨w9.heap.size, 0, none⟩, 3, 3⟩ [A, Bs, Bt]) := Lib.hid (rows_three (a := ⟨aA, A.length, aC⟩) (b := ⟨some bd, Bs.length, bC⟩) (c := ⟨y9.A, Bt.length, y9.c⟩) hA (HAI.out.below BA.out) (HBI.out.below BA.out) (by
          have h := HY9.out.below bA
          obtain ⟨q1, q2, q3⟩ := y9
          have hy9 : q2 = Bt.length := hy9
          subst hy9
          exact h))
        clear HV g HY9 hA bA hy9
        go_wp2_with fail
        go_ret2
        rw [HF.out]
        exact ⟨⟨⟨some ⟨w9.heap.size, 0, none⟩, 3, 3⟩, rfl, HRR.out⟩, HB.out.trans (BA.out.mono HB.out.size)⟩
end Go.Proofs.YtkhmocbfkpbpfaaGreatDoor

/- Contract of the document's Filter (layer 11), of any domains. -/
namespace Go.Proofs.YtkhmocbfkpbpfaaGreatDoor
open Go.RowKit Go.Sort

theorem refmul_any (v : ConV) (c : ConL) (x : Sl) (D : List (List Int)) (w : World) (h : ConIn w v c) (hx : IsRows w x D) (hD : ∀ l ∈ D, DomL l ∧ l.length ≤ 200000) :
    Calls Tryz.prog 36 #[v.val c.kind c.K, .slice x.A x.n x.c] w fun e w' => (∃ y : Sl, e = .returned (.tuple #[.slice y.A y.n y.c, .bool (mulE c D).isSome]) ∧ IsRows w' y ((mulE c D).getD [])) ∧ Below w.heap.size w w' := by
  by_cases hP : fitsE c D 5 7 = true → (D.getD 0 []).length * (D.getD 1 []).length ≤ 4096
  · exact refmul_pairs v c x D w h hx hD hP
  · simp only [Classical.not_imp] at hP
    obtain ⟨hf, hab⟩ := hP
    obtain ⟨A, Bs, C, rfl, hk, ha, hb, hc⟩ := fits_three hf
    have hab : ¬ A.length * Bs.length ≤ 4096 := hab
    obtain ⟨qA, lA⟩ := hD A (by simp)
    obtain ⟨qB, lB⟩ := hD Bs (by simp)
    obtain ⟨qC, lC⟩ := hD C (by simp)
    by_cases h5 : c.kind = 5
    · exact refmul_many5 v c x A Bs C w h hx hf h5 (by omega) lA lB lC (domL_in qA) (domL_in qB) ha hb hc
    · exact refmul_many67 v c x A Bs C w h hx hf (by omega) (by omega) lA lB ha hb hc
end Go.Proofs.YtkhmocbfkpbpfaaGreatDoor

/- Numbers one behind the other are a domain's; how much a filtered product's domains hold. No walk. -/
namespace Go.Proofs.YtkhmocbfkpbpfaaGreatDoor
open Go.RowKit

theorem mulL_sized {k : Int} {A B C : List Int} (lA : A.length ≤ 200) (lB : B.length ≤ 200) (lC : C.length ≤ 200) : (mulL k A B C).length ≤ 3 ∧ ∀ r ∈ mulL k A B C, r.length ≤ 4096 := by
  have short : ∀ S : List Int, (ofL S).length ≤ S.length := fun S => by
    by_cases he : ofErr S = 0
    · rw [ofL_ok _ he]; exact setOf_len S
    · rw [ofL_err _ _ rfl he]; simp
  unfold mulL
  split
  · rename_i hab
    have hl := hitsE_len (kindV k) C A B
    refine ⟨by simp, fun r hr => ?_⟩
    simp only [List.mem_cons, List.not_mem_nil, or_false] at hr
    rcases hr with rfl | rfl | rfl
    · refine Nat.le_trans (short _) ?_; simp only [h1, List.length_map]; omega
    · refine Nat.le_trans (short _) ?_; simp only [h2, List.length_map]; omega
    · refine Nat.le_trans (short _) ?_; simp only [h3, List.length_map]; omega
  · split
    · refine ⟨by simp, fun r hr => ?_⟩
      simp only [List.mem_cons, List.not_mem_nil, or_false] at hr
      rcases hr with rfl | rfl | rfl
      · omega
      · omega
      · exact Nat.le_trans (List.length_filter_le _ _) (Nat.le_trans (List.length_filter_le _ _) (by omega))
    · refine ⟨by simp, fun r hr => ?_⟩
      simp only [List.mem_cons, List.not_mem_nil, or_false] at hr
      rcases hr with rfl | rfl | rfl
      · omega
      · exact Nat.le_trans (List.length_filter_le _ _) (by omega)
      · omega
theorem mulE_sized {c : ConL} {D : List (List Int)} (hD : ∀ l ∈ D, l.length ≤ 200) : ((mulE c D).getD []).length ≤ 3 ∧ ∀ r ∈ (mulE c D).getD [], r.length ≤ 4096 := by
  cases hf : fitsE c D 5 7 with
  | false =>
    have : mulE c D = none := by unfold mulE; rw [if_neg (by rw [hf]; decide)]
    rw [this]
    exact ⟨by simp, fun r hr => by cases hr⟩
  | true =>
    obtain ⟨A, Bs, C, rfl, -⟩ := fits_three hf
    have hs := mulL_sized (k := c.kind) (hD A (by simp)) (hD Bs (by simp)) (hD C (by simp))
    unfold mulE
    rw [if_pos hf]
    split
    · exact ⟨by simp, fun r hr => by cases hr⟩
    · exact hs
end Go.Proofs.YtkhmocbfkpbpfaaGreatDoor

/- Contract of the law's wakes (layer 11). -/
namespace Go.Proofs.YtkhmocbfkpbpfaaGreatDoor
open Go.RowKit Go.Sort

theorem mulE_wake : mulE (cOf 5 [0, 1, 2]) [[2, 3], [4, 5], [0, 1, 2, 3, 4, 5, 6, 7, 8, 9, 10]] = some [[2], [4, 5], [8, 10]] := by kernel_rfl
theorem mulE_sleep (D : List (List Int)) : mulE (cOf 8 [0, 1]) D = none := by
  unfold mulE
  rw [if_neg]
  unfold fitsE cOf
  simp

set_option maxHeartbeats 4000000 in
set_option maxRecDepth 100000 in
theorem mulWakes_any (w : World) (hE : EntIn w) (hT : TabZ w) : Calls Tryz.prog 37 #[] w fun e w' => e = .returned (.bool true) ∧ Below w.heap.size w w' := by
  have HE := Lib.hid hE
  have HT := Lib.hid hT
  have C1 := Lib.hid (range_at 2 3 [2, 3] w (by decide))
  clear hE hT
  go_enter Tryz.func37, Tryz.ntmps37
  go_wp2_with fail
  refine C1.out.mono ?_
  rintro e w1 ⟨⟨d1, rfl, k1⟩, b1⟩
  have b2 := below1 w1 (.cells #[.int .i64 d1.s, .slice d1.A d1.n d1.c, .int .i64 d1.z] 53)
  have V1 := VarD.new k1
  have B2 := Lib.hid (b1.trans (b2.mono b1.size))
  obtain ⟨w2, hw2⟩ : ∃ w2, w1.alloc (.cells #[.int .i64 d1.s, .slice d1.A d1.n d1.c, .int .i64 d1.z] 53) = w2 := ⟨_, rfl⟩
  rw [hw2] at V1 B2
  obtain ⟨g1, hg1⟩ : ∃ g1, g1 = w1.heap.size := ⟨_, rfl⟩
  rw [← hg1] at V1
  have HV1 := Lib.hid V1
  have C2 := Lib.hid (range_at 4 5 [4, 5] w2 (by decide))
  clear C1 k1 b1 b2 V1
  go_upto_region 2 with fail
  clear hw2
  rw [← hg1]
  clear hg1
  go_wp2_with fail
  refine C2.out.mono ?_
  rintro e w3 ⟨⟨d2, rfl, k3⟩, b3⟩
  have b4 := below1 w3 (.cells #[.int .i64 d2.s, .slice d2.A d2.n d2.c, .int .i64 d2.z] 53)
  have V2 := VarD.new k3
  have b24 := b3.trans (b4.mono b3.size)
  have B4 := Lib.hid (B2.out.trans (b24.mono B2.out.size))
  have V1 := HV1.out.below b24
  obtain ⟨w4, hw4⟩ : ∃ w4, w3.alloc (.cells #[.int .i64 d2.s, .slice d2.A d2.n d2.c, .int .i64 d2.z] 53) = w4 := ⟨_, rfl⟩
  rw [hw4] at V2 B4 V1
  obtain ⟨g2, hg2⟩ : ∃ g2, g2 = w3.heap.size := ⟨_, rfl⟩
  rw [← hg2] at V2
  have HV1' := Lib.hid V1
  have HV2 := Lib.hid V2
  have C3 := Lib.hid (range_at 0 10 [0, 1, 2, 3, 4, 5, 6, 7, 8, 9, 10] w4 (by decide))
  clear C2 k3 b3 b4 b24 V1 V2 HV1 B2
  go_upto_region 3 with fail
  clear hw4
  rw [← hg2]
  clear hg2
  go_wp2_with fail
  refine C3.out.mono ?_
  rintro e w5 ⟨⟨d3, rfl, k5⟩, b5⟩
  have b6 := below1 w5 (.cells #[.int .i64 d3.s, .slice d3.A d3.n d3.c, .int .i64 d3.z] 53)
  have V3 := VarD.new k5
  have b46 := b5.trans (b6.mono b5.size)
  have B6 := Lib.hid (B4.out.trans (b46.mono B4.out.size))
  have V1 := HV1'.out.below b46
  have V2 := HV2.out.below b46
  obtain ⟨w6, hw6⟩ : ∃ w6, w5.alloc (.cells #[.int .i64 d3.s, .slice d3.A d3.n d3.c, .int .i64 d3.z] 53) = w6 := ⟨_, rfl⟩
  rw [hw6] at V3 B6 V1 V2
  obtain ⟨g3, hg3⟩ : ∃ g3, g3 = w5.heap.size := ⟨_, rfl⟩
  rw [← hg3] at V3
  clear C3 k5 b5 b6 b46 HV1' HV2 B4
  go_upto_region 4 with fail
  clear hw6
  rw [← hg3]
  clear hg3
  obtain ⟨w7, hw7⟩ : ∃ w7, w6.alloc (.cells #[.int .i64 0, .int .i64 1, .int .i64 2] 3) = w7 := ⟨_, rfl⟩
  have I7 : IsInts w7 ⟨some ⟨w6.heap.size, 0, none⟩, 3, 3⟩ [0, 1, 2] := hw7 ▸ ints_made w6 [0, 1, 2] 3 rfl (by omega)
  have b67 : Below w6.heap.size w6 w7 := hw7 ▸ below1 w6 _
  have W1 := V1.below b67
  have W2 := V2.below b67
  have W3 := V3.below b67
  have B7 := Lib.hid (B6.out.trans (b67.mono B6.out.size))
  have p0 := W1.c0
  have p1 := W1.c1
  have p2 := W1.c2
  have q0 := W2.c0
  have q1 := W2.c1
  have q2 := W2.c2
  have r0 := W3.c0
  have r1 := W3.c1
  have r2 := W3.c2
  have HD8 := Lib.hid (doms_build3 W1.2 W2.2 W3.2)
  obtain ⟨w8, hw8⟩ : ∃ w8, w7.alloc (.cells (d1.cells ++ d2.cells ++ d3.cells).toArray 53) = w8 := ⟨_, rfl⟩
  rw [hw8] at HD8
  have b78 : Below w7.heap.size w7 w8 := hw8 ▸ below1 w7 _
  have HW1 := Lib.hid (W1.below b78)
  have HW2 := Lib.hid (W2.below b78)
  have B8 := Lib.hid (B7.out.trans (b78.mono B7.out.size))
  have CF := mul_any (vOf ⟨some ⟨w6.heap.size, 0, none⟩, 3, 3⟩) (cOf 5 [0, 1, 2]) _ _ w8 (HE.out.below B8.out) (HT.out.below B8.out) (con_of 5 (I7.below b78)) HD8.out
  rw [mulE_wake] at CF
  have CF : Hid (Calls Tryz.prog 34 #[.agg #[.int .i64 5, .slice (some ⟨w6.heap.size, 0, none⟩) 3 3, .slice none 0 0, .slice none 0 0, .slice none 0 0, .slice none 0 0, .int .i64 0, .slice none 0 0], .slice (some ⟨w7.heap.size, 0, none⟩) 3 3] w8 fun e w' => (∃ y : Sl, e = .returned (.tuple #[.slice y.A y.n y.c, .bool true]) ∧ DomsIn w' y [[2], [4, 5], [8, 10]]) ∧ Below w8.heap.size w8 w') := Lib.hid CF
  have hw8' : w7.alloc (.cells #[.int .i64 d1.s, .slice d1.A d1.n d1.c, .int .i64 d1.z, .int .i64 d2.s, .slice d2.A d2.n d2.c, .int .i64 d2.z, .int .i64 d3.s, .slice d3.A d3.n d3.c, .int .i64 d3.z] 53) = w8 := hw8
  clear V1 V2 V3 W1 W2 W3 I7 b67 b78 B6 B7 HD8 hw8
  go_wp2_with fail
  refine CF.out.mono ?_
  rintro e w9 ⟨⟨y, rfl, hy⟩, b9⟩
  have HY := Lib.hid hy
  have W1 := HW1.out.below b9
  have W2 := HW2.out.below b9
  have B9 := Lib.hid (B8.out.trans (b9.mono B8.out.size))
  clear CF hw7 hw8' hy b9 HW1 HW2 B8 p0 p1 p2 q0 q1 q2 r0 r1 r2
  obtain ⟨wa, hwa⟩ : ∃ wa, w9.alloc (.cells #[.int .i64 0, .int .i64 1] 3) = wa := ⟨_, rfl⟩
  have Ia : IsInts wa ⟨some ⟨w9.heap.size, 0, none⟩, 2, 2⟩ [0, 1] := hwa ▸ ints_made w9 [0, 1] 2 rfl (by omega)
  have b9a : Below w9.heap.size w9 wa := hwa ▸ below1 w9 _
  have X1 := W1.below b9a
  have X2 := W2.below b9a
  have p0 := X1.c0
  have p1 := X1.c1
  have p2 := X1.c2
  have q0 := X2.c0
  have q1 := X2.c1
  have q2 := X2.c2
  have HDb := Lib.hid (doms_build2 X1.2 X2.2)
  obtain ⟨wb, hwb⟩ : ∃ wb, wa.alloc (.cells (d1.cells ++ d2.cells).toArray 53) = wb := ⟨_, rfl⟩
  rw [hwb] at HDb
  have bab : Below wa.heap.size wa wb := hwb ▸ below1 wa _
  have b9b := b9a.trans (bab.mono b9a.size)
  have HYb := Lib.hid (HY.out.below b9b)
  have Bb := Lib.hid (B9.out.trans (b9b.mono B9.out.size))
  have CF := mul_any (vOf ⟨some ⟨w9.heap.size, 0, none⟩, 2, 2⟩) (cOf 8 [0, 1]) _ _ wb (HE.out.below Bb.out) (HT.out.below Bb.out) (con_of 8 (Ia.below bab)) HDb.out
  rw [mulE_sleep] at CF
  have CF : Hid (Calls Tryz.prog 34 #[.agg #[.int .i64 8, .slice (some ⟨w9.heap.size, 0, none⟩) 2 2, .slice none 0 0, .slice none 0 0, .slice none 0 0, .slice none 0 0, .int .i64 0, .slice none 0 0], .slice (some ⟨wa.heap.size, 0, none⟩) 2 2] wb fun e w' => (∃ y : Sl, e = .returned (.tuple #[.slice y.A y.n y.c, .bool false]) ∧ DomsIn w' y []) ∧ Below wb.heap.size wb w') := Lib.hid CF
  have hwb' : wa.alloc (.cells #[.int .i64 d1.s, .slice d1.A d1.n d1.c, .int .i64 d1.z, .int .i64 d2.s, .slice d2.A d2.n d2.c, .int .i64 d2.z] 53) = wb := hwb
  clear W1 W2 X1 X2 Ia b9a bab b9b HY HDb hwb
  go_wp2_with fail
  refine CF.out.mono ?_
  rintro e wc ⟨⟨y2, rfl, -⟩, bc⟩
  have HYc := Lib.hid (HYb.out.below bc)
  have Bc := Lib.hid (Bb.out.trans (bc.mono Bb.out.size))
  clear CF hwa hwb' bc HYb B9 Bb p0 p1 p2 q0 q1 q2
  have hyn : y.n = 3 := HYc.out.len
  obtain ⟨g, o, e0, ex, p0, p1, p2, h0⟩ := HYc.out.at_ 0 (by omega)
  have E0 : Hid (IsDom wc e0.val [2]) := Lib.hid h0
  rw [Nat.zero_mul, Nat.add_zero] at p0 p1 p2
  have CS := Lib.hid (D.size_dom e0.val [2] wc E0.out)
  rw [ex]
  clear h0
  go_wp2_with fail
  refine CS.out.mono ?_
  rintro e wd ⟨rfl, bd⟩
  have HYd := Lib.hid (HYc.out.below bd)
  have Bd := Lib.hid (Bc.out.trans (bd.mono Bc.out.size))
  clear CS bd p0 p1 p2 E0
  obtain ⟨e1, q0, q1, q2, h1⟩ := same_base (Below.refl _ _) HYd.out ex 1 (by omega)
  have E1 : Hid (IsDom wd e1.val [4, 5]) := Lib.hid h1
  rw [Nat.one_mul] at q0 q1 q2
  have CS := Lib.hid (D.size_dom e1.val [4, 5] wd E1.out)
  clear h1
  go_wp2_with fail
  refine CS.out.mono ?_
  rintro e we ⟨rfl, be⟩
  have HYe := Lib.hid (HYd.out.below be)
  have Be := Lib.hid (Bd.out.trans (be.mono Bd.out.size))
  clear CS be q0 q1 q2 E1
  obtain ⟨e2, r0, r1, r2, h2⟩ := same_base (Below.refl _ _) HYe.out ex 2 (by omega)
  have E2 : Hid (IsDom we e2.val [8, 10]) := Lib.hid h2
  have r0 : we.cell? ⟨g, o + 6, none⟩ = some (.int .i64 e2.s) := r0
  have r1 : we.cell? ⟨g, o + 6 + 1, none⟩ = some (.slice e2.A e2.n e2.c) := r1
  have r2 : we.cell? ⟨g, o + 6 + 2, none⟩ = some (.int .i64 e2.z) := r2
  have CL := Lib.hid (list_dom e2.val [8, 10] we E2.out (HT.out.below Be.out))
  clear h2
  go_wp2_with fail
  refine CL.out.mono ?_
  rintro e wf ⟨v, rfl, hv, bf⟩
  obtain ⟨YA, kA, rfl⟩ := slice_row hv
  have Bf := Lib.hid (Be.out.trans (bf.mono Be.out.size))
  have If : IsInts wf ⟨YA, 2, kA⟩ [8, 10] := ints_own (y := ⟨YA, 2, kA⟩) hv (by simp)
  have bg := below1 wf (.cells #[.int .i64 8, .int .i64 10] 3)
  have Jg : IsInts (wf.alloc (.cells #[.int .i64 8, .int .i64 10] 3)) ⟨some ⟨wf.heap.size, 0, none⟩, 2, 2⟩ [8, 10] := ints_made wf [8, 10] 2 rfl (by omega)
  have Bg := Lib.hid (Bf.out.trans (bg.mono Bf.out.size))
  have CQ := gequal_ints ⟨YA, 2, kA⟩ ⟨some ⟨wf.heap.size, 0, none⟩, 2, 2⟩ [8, 10] [8, 10] _ (If.below bg) Jg
  have CQ : Hid (Calls Tryz.prog 64 #[.slice YA 2 kA, .slice (some ⟨wf.heap.size, 0, none⟩) 2 2] (wf.alloc (.cells #[.int .i64 8, .int .i64 10] 3)) fun e w' => e = .returned (.bool true) ∧ Below (wf.alloc (.cells #[.int .i64 8, .int .i64 10] 3)).heap.size (wf.alloc (.cells #[.int .i64 8, .int .i64 10] 3)) w') := Lib.hid CQ
  clear CL hv bf r0 r1 r2 E2 If Jg bg
  go_wp2_with fail
  refine CQ.out.mono ?_
  rintro e wh ⟨rfl, bh⟩
  have Bh := Lib.hid (Bg.out.trans (bh.mono Bg.out.size))
  clear CQ bh
  go_wp2_with fail
  go_ret
  exact ⟨rfl, Bh.out⟩
theorem mulKind_any (n : Int) (w : World) (hn : 0 ≤ n ∧ n ≤ 255) : Calls Tryz.prog 33 #[.int .u8 n] w fun e w' => e = .returned (.int .i64 (5 + n.tmod 3)) ∧ w = w' := by
  have h := tmod_in n 3 (by omega)
  have h0 := Int.tmod_nonneg 3 hn.1
  have w1 : IntKind.i64.wrap (n.tmod 3) = n.tmod 3 := IntWalk.i64_in _ (by omega)
  have w2 : IntKind.i64.wrap (5 + n.tmod 3) = 5 + n.tmod 3 := IntWalk.i64_in _ (by omega)
  clear hn h h0
  go_enter Tryz.func33, Tryz.ntmps33
  go_wp2_with fail
  go_ret
  exact ⟨rfl, rfl⟩
end Go.Proofs.YtkhmocbfkpbpfaaGreatDoor
