/- Contracts of the document's Range and Between (layer 11): numbers one behind the other, those of a list within bounds. -/
import Derived.Test.YtkhmocbfkpbpfaaGreatDoorMrd2
import Derived.Test.YtkhmocbfkpbpfaaGreatDoorMul4
import Derived.Test.YtkhmocbfkpbpfaaGreatDoorMshapes
namespace Go.Proofs.YtkhmocbfkpbpfaaGreatDoor
open Go.RowKit Go.Sort

/-- So many numbers, from one on. -/
def rangeFrom (a : Int) (n : Nat) : List Int := (List.range n).map fun (i : Nat) => a + (i : Int)
theorem rangeFrom_step (a : Int) (k : Nat) : rangeFrom a (k + 1) = rangeFrom a k ++ [a + (k : Int)] := by
  unfold rangeFrom
  rw [List.range_succ, List.map_append]
  rfl
theorem rangeFrom_len (a : Int) (n : Nat) : (rangeFrom a n).length = n := by simp [rangeFrom]
/-- Those of a list's first ones within bounds. -/
def betweenE (L : List Int) (lo hi : Int) : List Int := L.filter fun v => decide (lo ≤ v ∧ v ≤ hi)

set_option maxHeartbeats 2000000 in
set_option maxRecDepth 100000 in
theorem rangeFrom_any (a : Int) (n : Nat) (w : World) (ha : -1000000 ≤ a ∧ a ≤ 1000000) (hn : n ≤ 200000) :
    Calls Tryz.prog 32 #[.int .i64 a, .int .i64 (n : Nat)] w fun e w' => (∃ y : Sl, e = .returned (.slice y.A y.n y.c) ∧ Row3 w' w.heap.size y (rangeFrom a n)) ∧ Below w.heap.size w w' := by
  go_enter Tryz.func32, Tryz.ntmps32
  go_wp2_with fail
  go_loopw [5, 6] (fun s i wr => ∃ (k : Nat) (y : Sl), s = .slice y.A y.n y.c ∧ i = .int .i64 (k : Nat) ∧ k ≤ n ∧ Hid (SepL w.heap.size wr [(y, rangeFrom a k)]) ∧ Hid (Below w.heap.size w wr)) (fun _ i _ => n - (intOf i).toNat)
  case atStart => exact ⟨0, ⟨none, 0, 0⟩, rfl, rfl, by omega, Lib.hid ((SepL.nil _ w (Nat.le_refl _)).cons (Below.refl _ _) (Row3.nil _ _) (by intro g hg; cases hg)), Lib.hid (Below.refl _ _)⟩
  case round =>
    obtain ⟨k, y, rfl, rfl, hk, HS, HB⟩ := hrel
    by_cases hlt : k < n
    · have HE := Lib.hid (rangeFrom_step a k)
      have NL : Hid ((rangeFrom a k).length < 1000000) := Lib.hid (by rw [rangeFrom_len]; omega)
      have w1 : IntKind.i64.wrap (a + (k : Int)) = a + (k : Int) := IntWalk.i64_in _ (by omega)
      go_wp2_with (at_builtin; refine wpList_append_sep rfl _ _ 30 rfl Tryz.underlying30 Tryz.info3 HS.out 0 y _ (a + (k : Int)) rfl rfl rfl NL.out ?_; intro y1 w4 S4 b4; have HS4 := Lib.hid S4; have HB4 := Lib.hid (HB.out.trans b4); clear S4 b4)
      go_roundw
      case rel => exact ⟨k + 1, y1, rfl, by go_num, by omega, Lib.hid (by rw [HE.out]; exact HS4.out), HB4⟩
      case measure => simp [intOf]; omega
    · have HR := Lib.hid (HS.out.row (k := 0) rfl)
      have e3 : k = n := by omega
      subst e3
      clear hlt
      go_wp2_with fail
      go_ret
      exact ⟨⟨y, rfl, HR.out⟩, HB.out⟩

set_option maxHeartbeats 2000000 in
set_option maxRecDepth 100000 in
theorem between_of (x : Sl) (L : List Int) (lo hi : Int) (w : World) (h : IsInts w x L) (hb : L.length ≤ 200000) :
    Calls Tryz.prog 88 #[.slice x.A x.n x.c, .int .i64 lo, .int .i64 hi] w fun e w' => (∃ y : Sl, e = .returned (.slice y.A y.n y.c) ∧ Row3 w' w.heap.size y (betweenE L lo hi)) ∧ Below w.heap.size w w' := by
  obtain ⟨A, n, c⟩ := x
  have HI := Lib.hid h
  have hn : n = L.length := h.len
  subst hn
  clear h
  go_enter Tryz.func88, Tryz.ntmps88
  go_wp2_with fail
  go_loopw [7, 8] (fun s i wr => ∃ (k : Nat) (y : Sl), s = .slice y.A y.n y.c ∧ i = .int .i64 (k : Nat) ∧ k ≤ L.length ∧ Hid (SepL w.heap.size wr [(y, betweenE (L.take k) lo hi)]) ∧ Hid (Below w.heap.size w wr)) (fun _ i _ => L.length - (intOf i).toNat)
  case atStart => exact ⟨0, ⟨none, 0, 0⟩, rfl, rfl, by omega, Lib.hid ((SepL.nil _ w (Nat.le_refl _)).cons (Below.refl _ _) (Row3.nil _ _) (by intro g hg; cases hg)), Lib.hid (Below.refl _ _)⟩
  case round =>
    obtain ⟨k, y, rfl, rfl, hk, HS, HB⟩ := hrel
    by_cases hlt : k < L.length
    · obtain ⟨ad, eA, hbk, hcl⟩ := (HI.out.below HB.out).lies (show 0 < L.length by omega)
      simp only at eA
      subst eA
      have hv : wr.cell? (ad.add k) = some (.int .i64 (L.getD k 0)) := hcl k hlt
      have HST : Hid (betweenE (L.take (k + 1)) lo hi = betweenE (L.take k) lo hi ++ if lo ≤ L.getD k 0 ∧ L.getD k 0 ≤ hi then [L.getD k 0] else []) := Lib.hid (by
        unfold betweenE
        rw [List.take_succ_eq_append_getElem hlt, List.filter_append, List.getD_eq_getElem?_getD, List.getElem?_eq_getElem hlt]
        congr 1
        rw [List.filter_cons]
        simp)
      have NL : Hid ((betweenE (L.take k) lo hi).length < 1000000) := Lib.hid (by
        have := List.length_filter_le (fun v => decide (lo ≤ v ∧ v ≤ hi)) (L.take k)
        rw [List.length_take] at this
        unfold betweenE
        omega)
      obtain ⟨vv, hvv⟩ : ∃ vv, vv = L.getD k 0 := ⟨_, rfl⟩
      rw [← hvv] at hv HST
      clear hvv hcl hbk
      by_cases g1 : lo ≤ vv
      · by_cases g2 : vv ≤ hi
        · have HE : Hid (betweenE (L.take (k + 1)) lo hi = betweenE (L.take k) lo hi ++ [vv]) := Lib.hid (by rw [HST.out, if_pos ⟨g1, g2⟩])
          have t1 : decide (lo ≤ vv) = true := by simpa using g1
          have t2 : decide (vv ≤ hi) = true := by simpa using g2
          clear HST g1 g2
          go_wp2_with (at_builtin; refine wpList_append_sep rfl _ _ 30 rfl Tryz.underlying30 Tryz.info3 HS.out 0 y _ vv rfl rfl rfl NL.out ?_; intro y1 w4 S4 b4; have HS4 := Lib.hid S4; have HB4 := Lib.hid (HB.out.trans b4); clear S4 b4)
          go_roundw
          case rel => exact ⟨k + 1, y1, rfl, by go_num, by omega, Lib.hid (by rw [HE.out]; exact HS4.out), HB4⟩
          case measure => simp [intOf]; omega
        · have HE : Hid (betweenE (L.take (k + 1)) lo hi = betweenE (L.take k) lo hi) := Lib.hid (by rw [HST.out, if_neg (fun q => g2 q.2), List.append_nil])
          have t1 : decide (lo ≤ vv) = true := by simpa using g1
          have t2 : decide (vv ≤ hi) = false := by simpa using g2
          clear HST g1 g2
          go_wp2_with fail
          go_roundw
          case rel => exact ⟨k + 1, y, rfl, by go_num, by omega, Lib.hid (by rw [HE.out]; exact HS.out), HB⟩
          case measure => simp [intOf]; omega
      · have HE : Hid (betweenE (L.take (k + 1)) lo hi = betweenE (L.take k) lo hi) := Lib.hid (by rw [HST.out, if_neg (fun q => g1 q.1), List.append_nil])
        have t1 : decide (lo ≤ vv) = false := by simpa using g1
        clear HST g1
        go_wp2_with fail
        go_roundw
        case rel => exact ⟨k + 1, y, rfl, by go_num, by omega, Lib.hid (by rw [HE.out]; exact HS.out), HB⟩
        case measure => simp [intOf]; omega
    · have HR := Lib.hid (HS.out.row (k := 0) rfl)
      have e3 : k = L.length := by omega
      subst e3
      rw [List.take_of_length_le (Nat.le_refl _)] at HR
      clear hlt
      go_wp2_with fail
      go_ret
      exact ⟨⟨y, rfl, HR.out⟩, HB.out⟩
end Go.Proofs.YtkhmocbfkpbpfaaGreatDoor

/- Contract of mul's mayFilter: it is the document's Fits. -/
namespace Go.Proofs.YtkhmocbfkpbpfaaGreatDoor
open Go.RowKit Go.Sort

theorem three_mul {c : ConL} {n : Int} (h : rightE c n = 0) (hk : c.kind = 5 ∨ c.kind = 6 ∨ c.kind = 7) : c.A.length = 3 ∧ c.B.length = 0 := by
  obtain ⟨k1, k2, hs, ha, hb, hn⟩ := right_parts h
  rcases hk with hk | hk | hk
  · rw [size_5 c hk] at hs; omega
  · rw [size_6 c hk] at hs; omega
  · rw [size_7 c hk] at hs; omega
/-- Where the constraint is one of these and fits, there are three domains. -/
theorem fits_three {c : ConL} {D : List (List Int)} (h : fitsE c D 5 7 = true) : ∃ A B C, D = [A, B, C] ∧ (c.kind = 5 ∨ c.kind = 6 ∨ c.kind = 7) ∧ A ≠ [] ∧ B ≠ [] ∧ C ≠ [] := by
  unfold fitsE at h
  simp only [Bool.and_eq_true, Bool.not_eq_true', decide_eq_false_iff_not, decide_eq_true_eq, beq_iff_eq] at h
  obtain ⟨⟨⟨⟨h1, h2⟩, h3⟩, h4⟩, h5⟩ := h
  have hk : c.kind = 5 ∨ c.kind = 6 ∨ c.kind = 7 := by omega
  obtain ⟨l1, l2⟩ := three_mul h4 hk
  match D, h3, h5 with
  | [A, B, C], _, h5 =>
    simp only [List.any_cons, List.any_nil, Bool.or_false, Bool.or_eq_false_iff, beq_eq_false_iff_ne, ne_eq, List.length_eq_zero_iff] at h5
    exact ⟨A, B, C, rfl, hk, h5.1, h5.2.1, h5.2.2⟩
  | [], h3, _ => simp at h3; omega
  | [_], h3, _ => simp at h3; omega
  | [_, _], h3, _ => simp at h3; omega
  | _ :: _ :: _ :: _ :: _, h3, _ => simp at h3; omega

set_option maxHeartbeats 4000000 in
set_option maxRecDepth 100000 in
theorem mayMul_any (v : ConV) (c : ConL) (x : Sl) (D : List (List Int)) (w : World) (hE : EntIn w) (h : ConIn w v c) (hx : DomsIn w x D) :
    Calls Tryz.prog 84 #[v.val c.kind c.K, .slice x.A x.n x.c] w fun e w' => e = .returned (.bool (fitsE c D 5 7)) ∧ Below w.heap.size w w' := by
  obtain ⟨wb, hwb⟩ : ∃ wb, cBox w v c.kind c.K = wb := ⟨_, rfl⟩
  have HR : Hid (RBox w.heap.size wb v c ⟨none, 0, 0⟩ [] ∧ Below w.heap.size w wb) := Lib.hid (hwb ▸ ⟨RBox.start h (IsInts.nil _), cBox_below _ _ _ _⟩)
  have HD := Lib.hid (hx.below HR.out.2)
  have hxb := hx.big
  have hab := h.a.big
  have hbb := h.b.big
  have CR : Hid (Calls Tryz.prog 112 #[v.val c.kind c.K, .int .i64 256] wb fun e w' => e = .returned (.int .i64 (rightE c 256)) ∧ Below wb.heap.size wb w') := Lib.hid (right_any v c 256 wb (hE.below HR.out.2) HR.out.1.con)
  have HV : Hid (fitsE c D 5 7 = (!decide (c.kind < 5) && !decide (7 < c.kind) && decide (x.n = v.a.n + v.b.n) && (rightE c 256 == 0) && !D.any (fun l => l.length == 0))) := Lib.hid (by unfold fitsE; rw [h.a.len, h.b.len, hx.len])
  obtain ⟨RES, hRES⟩ : ∃ B, B = fitsE c D 5 7 := ⟨_, rfl⟩
  rw [← hRES] at HV ⊢
  have HWB := Lib.hid hwb
  obtain ⟨rr, hrr⟩ : ∃ rr, rr = rightE c 256 := ⟨_, rfl⟩
  rw [← hrr] at CR HV
  have CE : Hid (∀ W, Below wb.heap.size wb W → Calls Tryz.prog 56 #[.slice x.A x.n x.c, .func (.func 86) #[] #[]] W fun e w' => e = .returned (.bool (D.any fun l => l.length == 0)) ∧ Below W.heap.size W w') := Lib.hid (fun W hW => anyEmpty_any x D W (HD.out.below hW))
  obtain ⟨OB, hOB⟩ : ∃ B, B = D.any (fun l => l.length == 0) := ⟨_, rfl⟩
  rw [← hOB] at HV CE
  have ws : IntKind.i64.wrap (((v.a.n : Nat) : Int) + ((v.b.n : Nat) : Int)) = ((v.a.n : Nat) : Int) + ((v.b.n : Nat) : Int) := IntWalk.i64_in _ (by omega)
  have HB := Lib.hid HR.out.2
  clear hwb h hx hRES hrr hOB hE
  by_cases hk : c.kind = 5 ∨ c.kind = 6 ∨ c.kind = 7
  · have hk' : ((c.kind == 5) = true) ∨ ((c.kind == 5) = false ∧ (c.kind == 6) = true) ∨ ((c.kind == 5) = false ∧ (c.kind == 6) = false ∧ (c.kind == 7) = true) := by
      rcases hk with hk | hk | hk <;> simp [hk]
    have HV1 : Hid (RES = (decide (x.n = v.a.n + v.b.n) && (rr == 0) && !OB)) := Lib.hid (by
      rw [HV.out, decide_eq_false (show ¬ c.kind < 5 by omega), decide_eq_false (show ¬ 7 < c.kind by omega)]; simp)
    have d0 := HR.out.1.c0
    have d1 := HR.out.1.c1
    have d2 := HR.out.1.c2
    have d3 := HR.out.1.c3
    have d4 := HR.out.1.c4
    have d5 := HR.out.1.c5
    have d6 := HR.out.1.c6
    have d7 := HR.out.1.c7
    clear hk HV
    have HH : ((rr == 0) = false ∧ Hid (RES = false)) ∨ ((rr == 0) = true ∧ ((((x.n : Nat) : Int) == ((v.a.n : Nat) : Int) + ((v.b.n : Nat) : Int)) = false) ∧ Hid (RES = false)) ∨ ((rr == 0) = true ∧ ((((x.n : Nat) : Int) == ((v.a.n : Nat) : Int) + ((v.b.n : Nat) : Int)) = true) ∧ Hid (RES = !OB)) := by
      cases g1 : (rr == 0)
      · exact .inl ⟨rfl, Lib.hid (by rw [HV1.out, g1]; simp)⟩
      · by_cases g2 : x.n = v.a.n + v.b.n
        · exact .inr (.inr ⟨rfl, by simp; omega, Lib.hid (by rw [HV1.out, decide_eq_true g2, g1]; simp)⟩)
        · exact .inr (.inl ⟨rfl, by simp; omega, Lib.hid (by rw [HV1.out, decide_eq_false g2]; simp)⟩)
    clear HV1
    rcases HH with ⟨g1, HF⟩ | ⟨g1, g4, HF⟩ | ⟨g1, g4, HF⟩ <;> rcases hk' with k5 | ⟨k5, k6⟩ | ⟨k5, k6, k7⟩
    all_goals
      go_enter Tryz.func84, Tryz.ntmps84
      go_upto_region 1 with fail
      change Code.wp _ _ _ _ (cBox w v c.kind c.K)
      rw [HWB.out]
      clear HWB
      go_wp2_with fail
      refine CR.out.mono ?_
      rintro e w1 ⟨rfl, b1⟩
      have B1 := Lib.hid b1
      have d1' := (b1.cell (World.block_lt_of_cell? _ _ d1)).trans d1
      have d2' := (b1.cell (World.block_lt_of_cell? _ _ d2)).trans d2
      clear b1 CR d0 d1 d2 d3 d4 d5 d6 d7
      go_wp2_with fail
      first
        | (go_ret; exact ⟨ret_bool HF.out.symm, HB.out.trans (B1.out.mono HB.out.size)⟩)
        | (refine (CE.out w1 B1.out).mono ?_
           rintro e w2 ⟨rfl, b2⟩
           have B2 := Lib.hid (HB.out.trans ((B1.out.trans (b2.mono B1.out.size)).mono HB.out.size))
           clear b2 CE
           go_wp2_with fail
           go_ret
           exact ⟨ret_bool HF.out.symm, B2.out⟩)
  · have HF : Hid (RES = false) := Lib.hid (by
      rw [HV.out]
      have : c.kind < 5 ∨ 7 < c.kind := by omega
      rcases this with g | g
      · rw [decide_eq_true g]; simp
      · rw [decide_eq_true g]; simp)
    have k5 : (c.kind == 5) = false := by simp; omega
    have k6 : (c.kind == 6) = false := by simp; omega
    have k7 : (c.kind == 7) = false := by simp; omega
    have d0 := HR.out.1.c0
    clear hk HV
    go_enter Tryz.func84, Tryz.ntmps84
    go_upto_region 1 with fail
    change Code.wp _ _ _ _ (cBox w v c.kind c.K)
    rw [HWB.out]
    clear HWB
    go_wp2_with fail
    go_ret
    exact ⟨ret_bool HF.out.symm, HB.out⟩
end Go.Proofs.YtkhmocbfkpbpfaaGreatDoor

/- Contracts of mul's filter and Filter. -/
namespace Go.Proofs.YtkhmocbfkpbpfaaGreatDoor
open Go.RowKit Go.Sort

set_option maxHeartbeats 4000000 in
set_option maxRecDepth 100000 in
theorem mulFilter_any (kind : Int) (x : Sl) (A Bs C : List Int) (w : World) (hk : kind = 5 ∨ kind = 6 ∨ kind = 7) (h : DomsIn w x [A, Bs, C]) (hT : TabZ w) (ha : A ≠ []) (hb : Bs ≠ []) :
    Calls Tryz.prog 85 #[.int .i64 kind, .slice x.A x.n x.c] w fun e w' => (∃ y : Sl, e = .returned (.slice y.A y.n y.c) ∧ DomsIn w' y (mulL kind A Bs C)) ∧ Below w.heap.size w w' := by
  have HD := Lib.hid h
  have HT := Lib.hid hT
  have hxn : x.n = 3 := h.len
  obtain ⟨g, o, d0, ex, p0, p1, p2, hD0⟩ := h.at_ 0 (by omega)
  obtain ⟨g', o', d1, ex', q0, q1, q2, hD1⟩ := h.at_ 1 (by omega)
  obtain ⟨g'', o'', d2, ex'', r0, r1, r2, hD2⟩ := h.at_ 2 (by omega)
  have eg1 : g = g' ∧ o = o' := by rw [ex] at ex'; injection ex' with ex'; injection ex' with e1 e2 _; exact ⟨e1, e2⟩
  have eg2 : g = g'' ∧ o = o'' := by rw [ex] at ex''; injection ex'' with ex''; injection ex'' with e1 e2 _; exact ⟨e1, e2⟩
  obtain ⟨rfl, rfl⟩ := eg1
  obtain ⟨rfl, rfl⟩ := eg2
  have hD0' : IsDom w d0.val A := hD0
  have hD1' : IsDom w d1.val Bs := hD1
  have hD2' : IsDom w d2.val C := hD2
  have HD0 := Lib.hid hD0'
  have HD1 := Lib.hid hD1'
  have HD2 := Lib.hid hD2'
  rw [ex]
  rw [Nat.zero_mul, Nat.add_zero] at p0 p1 p2
  rw [Nat.one_mul] at q0 q1 q2
  have r0 : w.cell? ⟨g, o + 6, none⟩ = some (.int .i64 d2.s) := r0
  have r1 : w.cell? ⟨g, o + 6 + 1, none⟩ = some (.slice d2.A d2.n d2.c) := r1
  have r2 : w.cell? ⟨g, o + 6 + 2, none⟩ = some (.int .i64 d2.z) := r2
  have HP := Lib.hid (And.intro p0 (And.intro p1 (And.intro p2 (And.intro q0 (And.intro q1 (And.intro q2 (And.intro r0 (And.intro r1 r2))))))))
  have la := hD0'.len_lim
  have lb := hD1'.len_lim
  have S0 := Lib.hid (in_regrown' (w := w) (fun W hW => D.size_dom d0.val A W (HD0.out.below hW)))
  have S1 := Lib.hid (in_regrown' (w := w) (fun W hW => D.size_dom d1.val Bs W (HD1.out.below hW)))
  have hpl : A.length * Bs.length ≤ 2000064 * 2000064 := Nat.mul_le_mul la lb
  have hwr : IntKind.i64.wrap (((A.length : Nat) : Int) * ((Bs.length : Nat) : Int)) = ((A.length : Nat) : Int) * ((Bs.length : Nat) : Int) := IntWalk.i64_in _ (by
    have : (((A.length : Nat) : Int) * ((Bs.length : Nat) : Int)) = ((A.length * Bs.length : Nat) : Int) := by simp
    omega)
  have e0 := cell_regrown p0
  have e1 := cell_regrown p1
  have e2 := cell_regrown p2
  have f0 := cell_regrown q0
  have f1 := cell_regrown q1
  have f2 := cell_regrown q2
  clear hD0 hD1 hD2 hD0' hD1' hD2' h hT ex' ex'' p0 p1 p2 q0 q1 q2 r0 r1 r2
  by_cases hle : A.length * Bs.length ≤ 4096
  · have t1 : decide (((A.length : Nat) : Int) * ((Bs.length : Nat) : Int) ≤ 4096) = true := by
      have : (((A.length : Nat) : Int) * ((Bs.length : Nat) : Int)) = ((A.length * Bs.length : Nat) : Int) := by simp
      simp only [this, decide_eq_true_eq]; omega
    have hA4 : A.length ≤ 4096 := Nat.le_trans (Nat.le_mul_of_pos_right _ (List.length_pos_iff.2 hb)) hle
    have hB4 : Bs.length ≤ 4096 := Nat.le_trans (Nat.le_mul_of_pos_left _ (List.length_pos_iff.2 ha)) hle
    have HM : Hid (mulL kind A Bs C = [ofL (h1 (hitsE (kindV kind) C A Bs)), ofL (h2 (hitsE (kindV kind) C A Bs)), ofL (h3 (hitsE (kindV kind) C A Bs))]) := Lib.hid (by unfold mulL; rw [if_pos hle])
    obtain ⟨R, hR⟩ : ∃ R, R = mulL kind A Bs C := ⟨_, rfl⟩
    rw [← hR] at HM ⊢
    have CR := Lib.hid (fun W => result_any kind W hk)
    have CS : Hid (∀ W, Below w.heap.size w W → Calls Tryz.prog 136 #[.func (.func (fnOf kind)) #[] #[], .slice (some ⟨g, o, none⟩) 3 x.c] W fun e w' => (∃ y : Sl, e = .returned (.slice y.A y.n y.c) ∧ DomsIn w' y R) ∧ Below W.heap.size W w') := Lib.hid (fun W hW => by
      have := solved_any (fnOf kind) (eFn kind) (kindV kind) x A Bs C W (HD.out.below hW) (HT.out.below hW) hle hA4 hB4 (fun a b W ha hb => fn_tells kind a b W hk ha hb) (fun a b r ha hb => kindV_lim ha hb)
      rw [ex, hxn, ← HM.out] at this
      exact this)
    clear hle hpl hA4 hB4 hR hk ha hb HM
    generalize A.length = na at *
    generalize Bs.length = nb at *
    go_enter Tryz.func85, Tryz.ntmps85
    go_upto_region 3 with fail
    refine wp_region_quiet_below (by kernel_rfl) (by kernel_rfl) ?_
    repeat (first | go_big_quiet_step (first | (go_at_call 90; with_reducible exact S0.out _ _) | (go_at_call 90; with_reducible exact S1.out _ _)) | quiet_step (fail))
    refine wpQuiet_nil ?_
    intro _ hw'
    obtain ⟨⟨dq, osq⟩, hw''⟩ := hw'
    subst hw''
    have b5 := below_regrown w dq osq
    generalize grow (redrawn w dq) osq = w5 at *
    have B5 := Lib.hid b5
    clear e0 e1 e2 f0 f1 f2 S0 S1 b5
    go_wp2_with fail
    refine (CR.out w5).mono ?_
    rintro e w6 ⟨rfl, rfl⟩
    clear CR
    go_wp2_with fail
    refine (CS.out w5 B5.out).mono ?_
    rintro e w7 ⟨⟨y, rfl, hy⟩, b7⟩
    have HY := Lib.hid hy
    have B7 := Lib.hid (B5.out.trans (b7.mono B5.out.size))
    clear CS hy b7
    go_wp2_with fail
    go_ret
    exact ⟨⟨y, rfl, HY.out⟩, B7.out⟩
  · have t1 : decide (((A.length : Nat) : Int) * ((Bs.length : Nat) : Int) ≤ 4096) = false := by
      have : (((A.length : Nat) : Int) * ((Bs.length : Nat) : Int)) = ((A.length * Bs.length : Nat) : Int) := by simp
      simp only [this, decide_eq_false_iff_not]; omega
    by_cases h5 : kind = 5
    · have k5 : (kind == 5) = true := by simp [h5]
      have HM : Hid (mulL kind A Bs C = [A, Bs, (C.filter fun u => decide (lowP A Bs ≤ u)).filter fun u => decide (u ≤ highP A Bs)]) := Lib.hid (by unfold mulL; rw [if_neg hle, if_pos h5])
      obtain ⟨R, hR⟩ : ∃ R, R = mulL kind A Bs C := ⟨_, rfl⟩
      rw [← hR] at HM ⊢
      have CB : Hid (∀ W, Below w.heap.size w W → Calls Tryz.prog 138 #[.agg #[.int .i64 d0.s, .slice d0.A d0.n d0.c, .int .i64 d0.z], .agg #[.int .i64 d1.s, .slice d1.A d1.n d1.c, .int .i64 d1.z], .agg #[.int .i64 d2.s, .slice d2.A d2.n d2.c, .int .i64 d2.z]] W
          fun e w' => (∃ d : Dv, e = .returned d.val ∧ IsDom w' d.val ((C.filter fun u => decide (lowP A Bs ≤ u)).filter fun u => decide (u ≤ highP A Bs))) ∧ Below W.heap.size W w') := Lib.hid (fun W hW => between_any d0 d1 d2 A Bs C W (HD0.out.below hW) (HD1.out.below hW) (HD2.out.below hW) (HT.out.below hW))
      generalize ((C.filter fun u => decide (lowP A Bs ≤ u)).filter fun u => decide (u ≤ highP A Bs)) = Q at CB HM
      clear hle hpl hR hk ha hb h5
      have LA : Hid (∀ W, IsDom W d0.val A → IsDom W d0.val A) := Lib.hid (fun _ h => h)
      go_enter Tryz.func85, Tryz.ntmps85
      go_upto_region 3 with fail
      refine wp_region_quiet_below (by kernel_rfl) (by kernel_rfl) ?_
      repeat (first | go_big_quiet_step (first | (go_at_call 90; with_reducible exact S0.out _ _) | (go_at_call 90; with_reducible exact S1.out _ _)) | quiet_step (fail))
      refine wpQuiet_nil ?_
      intro _ hw'
      obtain ⟨⟨dq, osq⟩, hw''⟩ := hw'
      subst hw''
      have b5 := below_regrown w dq osq
      generalize grow (redrawn w dq) osq = w5 at *
      have B5 := Lib.hid b5
      clear e0 e1 e2 f0 f1 f2 S0 S1 b5
      have HS : Hid (∀ W, Below w5.heap.size w5 W → Below w5.heap.size w5 W ∧ W.cell? ⟨g, o, none⟩ = some (.int .i64 d0.s) ∧ W.cell? ⟨g, o + 1, none⟩ = some (.slice d0.A d0.n d0.c) ∧ W.cell? ⟨g, o + 2, none⟩ = some (.int .i64 d0.z) ∧ W.cell? ⟨g, o + 3, none⟩ = some (.int .i64 d1.s) ∧ W.cell? ⟨g, o + 3 + 1, none⟩ = some (.slice d1.A d1.n d1.c) ∧ W.cell? ⟨g, o + 3 + 2, none⟩ = some (.int .i64 d1.z) ∧ W.cell? ⟨g, o + 6, none⟩ = some (.int .i64 d2.s) ∧ W.cell? ⟨g, o + 6 + 1, none⟩ = some (.slice d2.A d2.n d2.c) ∧ W.cell? ⟨g, o + 6 + 2, none⟩ = some (.int .i64 d2.z)) := Lib.hid (fun W hW => by
        have b := B5.out.trans (hW.mono B5.out.size)
        obtain ⟨p0, p1, p2, p3, p4, p5, p6, p7, p8⟩ := HP.out
        have k : ∀ {a : Addr} {u : Value}, w.cell? a = some u → W.cell? a = some u := fun h => (b.cell (World.block_lt_of_cell? _ _ h)).trans h
        exact ⟨hW, k p0, k p1, k p2, k p3, k p4, k p5, k p6, k p7, k p8⟩)
      go_upto_region 6 with fail
      have hS := HS.out w5.drew (Below.refl _ _).drew
      go_region_held3 (fun W => Below w5.heap.size w5 W ∧ W.cell? ⟨g, o, none⟩ = some (.int .i64 d0.s) ∧ W.cell? ⟨g, o + 1, none⟩ = some (.slice d0.A d0.n d0.c) ∧ W.cell? ⟨g, o + 2, none⟩ = some (.int .i64 d0.z) ∧ W.cell? ⟨g, o + 3, none⟩ = some (.int .i64 d1.s) ∧ W.cell? ⟨g, o + 3 + 1, none⟩ = some (.slice d1.A d1.n d1.c) ∧ W.cell? ⟨g, o + 3 + 2, none⟩ = some (.int .i64 d1.z) ∧ W.cell? ⟨g, o + 6, none⟩ = some (.int .i64 d2.s) ∧ W.cell? ⟨g, o + 6 + 1, none⟩ = some (.slice d2.A d2.n d2.c) ∧ W.cell? ⟨g, o + 6 + 2, none⟩ = some (.int .i64 d2.z)) (first | assumption | exact HS.out _ (hS.1.alloc hS.1.size _))
        (first | (go_at_call 138; refine (CB.out _ (B5.out.trans (hS.1.mono B5.out.size))).mono ?_; rintro e w6 ⟨⟨dd, rfl, hdd⟩, b6⟩; have HDD := Lib.hid hdd; have B6 := Lib.hid (B5.out.trans ((hS.1.trans (b6.mono hS.1.size)).mono B5.out.size)); have hS := HS.out _ (hS.1.trans (b6.mono hS.1.size))))
      have HF := Lib.hid (doms_build3 (HD0.out.below B6.out) (HD1.out.below B6.out) HDD.out)
      have BF := Lib.hid (B6.out.trans ((below1 w6 (.cells #[.int .i64 d0.s, .slice d0.A d0.n d0.c, .int .i64 d0.z, .int .i64 d1.s, .slice d1.A d1.n d1.c, .int .i64 d1.z, .int .i64 dd.s, .slice dd.A dd.n dd.c, .int .i64 dd.z] 53)).mono B6.out.size))
      clear HDD B6 hS HS HP
      go_wp2_with fail
      go_ret
      exact ⟨⟨⟨some ⟨w6.heap.size, 0, none⟩, 3, 3⟩, rfl, by rw [HM.out]; exact HF.out⟩, BF.out⟩
    · have k5 : (kind == 5) = false := by simp [h5]
      have HM : Hid (mulL kind A Bs C = [A, Bs.filter fun u => decide (u ≠ 0), C]) := Lib.hid (by unfold mulL; rw [if_neg hle, if_neg h5])
      obtain ⟨R, hR⟩ : ∃ R, R = mulL kind A Bs C := ⟨_, rfl⟩
      rw [← hR] at HM ⊢
      have CW : Hid (∀ W, Below w.heap.size w W → Calls Tryz.prog 139 #[.agg #[.int .i64 d1.s, .slice d1.A d1.n d1.c, .int .i64 d1.z], .int .i64 0] W (GivesDom W (Bs.filter fun u => decide (u ≠ 0)) (D.chg Bs (Bs.filter fun u => decide (u ≠ 0))))) := Lib.hid (fun W hW => D.without_dom d1.val Bs 0 W (HD1.out.below hW) (HT.out.below hW))
      generalize D.chg Bs (Bs.filter fun u => decide (u ≠ 0)) = ch at CW
      generalize (Bs.filter fun u => decide (u ≠ 0)) = Q at CW HM
      clear hle hpl hR hk ha hb h5
      go_enter Tryz.func85, Tryz.ntmps85
      go_upto_region 3 with fail
      refine wp_region_quiet_below (by kernel_rfl) (by kernel_rfl) ?_
      repeat (first | go_big_quiet_step (first | (go_at_call 90; with_reducible exact S0.out _ _) | (go_at_call 90; with_reducible exact S1.out _ _)) | quiet_step (fail))
      refine wpQuiet_nil ?_
      intro _ hw'
      obtain ⟨⟨dq, osq⟩, hw''⟩ := hw'
      subst hw''
      have b5 := below_regrown w dq osq
      generalize grow (redrawn w dq) osq = w5 at *
      have B5 := Lib.hid b5
      clear e0 e1 e2 f0 f1 f2 S0 S1 b5
      have HS : Hid (∀ W, Below w5.heap.size w5 W → W.cell? ⟨g, o, none⟩ = some (.int .i64 d0.s) ∧ W.cell? ⟨g, o + 1, none⟩ = some (.slice d0.A d0.n d0.c) ∧ W.cell? ⟨g, o + 2, none⟩ = some (.int .i64 d0.z) ∧ W.cell? ⟨g, o + 3, none⟩ = some (.int .i64 d1.s) ∧ W.cell? ⟨g, o + 3 + 1, none⟩ = some (.slice d1.A d1.n d1.c) ∧ W.cell? ⟨g, o + 3 + 2, none⟩ = some (.int .i64 d1.z) ∧ W.cell? ⟨g, o + 6, none⟩ = some (.int .i64 d2.s) ∧ W.cell? ⟨g, o + 6 + 1, none⟩ = some (.slice d2.A d2.n d2.c) ∧ W.cell? ⟨g, o + 6 + 2, none⟩ = some (.int .i64 d2.z)) := Lib.hid (fun W hW => by
        have b := B5.out.trans (hW.mono B5.out.size)
        obtain ⟨p0, p1, p2, p3, p4, p5, p6, p7, p8⟩ := HP.out
        have k : ∀ {a : Addr} {u : Value}, w.cell? a = some u → W.cell? a = some u := fun h => (b.cell (World.block_lt_of_cell? _ _ h)).trans h
        exact ⟨k p0, k p1, k p2, k p3, k p4, k p5, k p6, k p7, k p8⟩)
      obtain ⟨p0, p1, p2, p3, p4, p5, p6, p7, p8⟩ := HS.out w5 (Below.refl _ _)
      go_wp2_with fail
      refine (CW.out w5 B5.out).mono ?_
      rintro e w6 ⟨d, rfl, hd, b6⟩
      obtain ⟨dd, rfl, hz6⟩ := Dv.of hd
      have HDD := Lib.hid hd
      have B56 := Lib.hid b6
      clear p0 p1 p2 p3 p4 p5 p6 p7 p8 CW hd b6 hz6
      obtain ⟨w7, hw7⟩ : ∃ w7, w6.alloc (.cells dd.cells.toArray 53) = w7 := ⟨_, rfl⟩
      have hnew := heap_alloc_new w6 (.cells dd.cells.toArray 53)
      rw [hw7] at hnew
      have b67 : Below w6.heap.size w6 w7 := hw7 ▸ below1 w6 _
      have HN := Lib.hid hnew
      have HDD7 := Lib.hid (HDD.out.below b67)
      have B57 := Lib.hid (B56.out.trans (b67.mono B56.out.size))
      have B7 := Lib.hid (B5.out.trans (B57.out.mono B5.out.size))
      clear hnew b67 HDD B56
      go_upto_region 2 with fail
      clear hw7
      have HS7 : Hid (∀ W, Below w7.heap.size w7 W → Below w7.heap.size w7 W ∧ W.cell? ⟨g, o, none⟩ = some (.int .i64 d0.s) ∧ W.cell? ⟨g, o + 1, none⟩ = some (.slice d0.A d0.n d0.c) ∧ W.cell? ⟨g, o + 2, none⟩ = some (.int .i64 d0.z) ∧ W.cell? ⟨w6.heap.size, 0, none⟩ = some (.int .i64 dd.s) ∧ W.cell? ⟨w6.heap.size, 1, none⟩ = some (.slice dd.A dd.n dd.c) ∧ W.cell? ⟨w6.heap.size, 2, none⟩ = some (.int .i64 dd.z) ∧ W.cell? ⟨g, o + 6, none⟩ = some (.int .i64 d2.s) ∧ W.cell? ⟨g, o + 6 + 1, none⟩ = some (.slice d2.A d2.n d2.c) ∧ W.cell? ⟨g, o + 6 + 2, none⟩ = some (.int .i64 d2.z)) := Lib.hid (fun W hW => by
        obtain ⟨p0, p1, p2, p3, p4, p5, p6, p7, p8⟩ := HS.out W (B57.out.trans (hW.mono B57.out.size))
        have hk := (hW.block _ (Array.getElem?_eq_some_iff.1 HN.out).1).trans HN.out
        exact ⟨hW, p0, p1, p2, blk_cell hk rfl, blk_cell hk rfl, blk_cell hk rfl, p6, p7, p8⟩)
      have hS := HS7.out w7.drew (Below.refl _ _).drew
      go_region_held3 (fun W => Below w7.heap.size w7 W ∧ W.cell? ⟨g, o, none⟩ = some (.int .i64 d0.s) ∧ W.cell? ⟨g, o + 1, none⟩ = some (.slice d0.A d0.n d0.c) ∧ W.cell? ⟨g, o + 2, none⟩ = some (.int .i64 d0.z) ∧ W.cell? ⟨w6.heap.size, 0, none⟩ = some (.int .i64 dd.s) ∧ W.cell? ⟨w6.heap.size, 1, none⟩ = some (.slice dd.A dd.n dd.c) ∧ W.cell? ⟨w6.heap.size, 2, none⟩ = some (.int .i64 dd.z) ∧ W.cell? ⟨g, o + 6, none⟩ = some (.int .i64 d2.s) ∧ W.cell? ⟨g, o + 6 + 1, none⟩ = some (.slice d2.A d2.n d2.c) ∧ W.cell? ⟨g, o + 6 + 2, none⟩ = some (.int .i64 d2.z)) (first | assumption | exact HS7.out _ (hS.1.alloc hS.1.size _)) (fail)
      have BD : Below w7.heap.size w7 w7.drew := (Below.refl _ _).drew
      have HF := Lib.hid (doms_build3 ((HD0.out.below B7.out).below BD) (HDD7.out.below BD) ((HD2.out.below B7.out).below BD))
      have B8 := B7.out.trans (BD.mono B7.out.size)
      have BF := Lib.hid (B8.trans ((below1 w7.drew (.cells #[.int .i64 d0.s, .slice d0.A d0.n d0.c, .int .i64 d0.z, .int .i64 dd.s, .slice dd.A dd.n dd.c, .int .i64 dd.z, .int .i64 d2.s, .slice d2.A d2.n d2.c, .int .i64 d2.z] 53)).mono B8.size))
      clear HDD7 B7 B57 hS HS HS7 HP HN
      go_wp2_with fail
      go_ret
      exact ⟨⟨⟨some ⟨w7.drew.heap.size, 0, none⟩, 3, 3⟩, rfl, by rw [HM.out]; exact HF.out⟩, BF.out⟩
end Go.Proofs.YtkhmocbfkpbpfaaGreatDoor
