/- Contracts of the document's Small (layer 2) and Same (layer 10): shared by layers 10 to 22. -/
import Derived.Test.YtkhmocbfkpbpfaaGreatDoorLay00
import Derived.Test.YtkhmocbfkpbpfaaGreatDoorLn2
import Derived.Test.YtkhmocbfkpbpfaaGreatDoorGcon
namespace Go.Proofs.YtkhmocbfkpbpfaaGreatDoor
open Go.RowKit Go.Sort

/-- Numbers by a width. -/
def modW (wd : Int) (zs : List Int) (k : Nat) : List Int := (zs.take k).map fun z => z.tmod wd
/-- Small numbers, rising. -/
def smallW (zs : List Int) (most : Nat) (wd : Int) : List Int := ofL (modW wd zs most)
theorem modW_step (wd : Int) (zs : List Int) (k : Nat) (h : k < zs.length) : modW wd zs (k + 1) = modW wd zs k ++ [(zs.getD k 0).tmod wd] := by
  unfold modW
  rw [List.take_succ_eq_append_getElem h, List.map_append, List.getD_eq_getElem?_getD, List.getElem?_eq_getElem h]
  rfl
theorem modW_len (wd : Int) (zs : List Int) (k : Nat) : (modW wd zs k).length ≤ k := by simp [modW]; omega
theorem modW_mem {wd : Int} {zs : List Int} {k : Nat} {v : Int} (hw : 0 < wd) (h : v ∈ modW wd zs k) : -wd < v ∧ v < wd := by
  unfold modW at h
  obtain ⟨z, -, rfl⟩ := List.mem_map.1 h
  exact tmod_in z wd hw

set_option maxHeartbeats 2000000 in
set_option maxRecDepth 100000 in
theorem smallW_any (x : Sl) (zs : List Int) (most : Nat) (wd : Int) (w : World) (h : IsInts w x zs) (hm : most ≤ 1000) (hw : 1 ≤ wd ∧ wd ≤ 1000000) : Calls Tryz.prog 53 #[.slice x.A x.n x.c, .int .i64 (most : Nat), .int .i64 wd] w fun e w' => (∃ y : Sl, e = .returned (.slice y.A y.n y.c) ∧ Row3 w' w.heap.size y (smallW zs most wd)) ∧ Below w.heap.size w w' := by
  obtain ⟨i0, hi, hz0, hz1, hz2⟩ := info_parts Tryz.info3
  obtain ⟨A, n, c⟩ := x
  have Hn := Lib.hid h.len
  have H := Lib.hid h.lies
  have hbig := h.big
  simp only at Hn H hbig ⊢
  have hw0 : (wd == 0) = false := by simp; omega
  have hw1 : ¬ wd = 0 := by omega
  have HW := Lib.hid hw
  clear h hw
  go_enter Tryz.func53, Tryz.ntmps53
  go_wp2_with fail
  go_loopw [7, 8] (fun v i wr => ∃ k : Nat, k ≤ n ∧ k ≤ most ∧ i = .int .i64 (k : Nat) ∧ Hid (wr.ownsRow w.heap.size 3 1 v (modW wd zs k).length (I (modW wd zs k))) ∧ Hid (Below w.heap.size w wr)) (fun _ i _ => n - (intOf i).toNat)
  case atStart => exact ⟨0, Nat.zero_le _, Nat.zero_le _, rfl, Lib.hid (World.ownsRow_nil _ _ _ _), Lib.hid (Below.refl _ _)⟩
  case round =>
    obtain ⟨wo, rfl⟩ : ∃ wo, wo = wr := ⟨_, rfl⟩
    obtain ⟨k, hk, hk8, rfl, hown, hbr⟩ := hrel
    by_cases hlt : k < n ∧ k < most
    · obtain ⟨hl1, hl2⟩ := hlt
      obtain ⟨ad, rfl, hb, hcl⟩ := H.out (by omega)
      have ck : wo.cell? (ad.add k) = some (.int .i64 (zs.getD k 0)) := (hbr.out.cell (by rw [add_block]; exact hb)).trans (hcl k hl1)
      have hlen := modW_len wd zs k
      have Hstep := Lib.hid (modW_step wd zs k (by rw [← Hn.out]; exact hl1))
      have d1 : decide (k < n) = true := by simpa using hl1
      have d2 : decide (k < most) = true := by simpa using hl2
      have hki : (k : Int) < (n : Nat) := by omega
      generalize zs.getD k 0 = z at *
      have ht := tmod_in z wd (by have := HW.out; omega)
      have hwb : wd ≤ 1000000 := HW.out.2
      have w2 : IntKind.i64.wrap (z.tmod wd) = z.tmod wd := IntWalk.i64_in _ (by omega)
      have Z5 := Lib.hid hbr.out.size
      clear hcl hb ht hwb
      go_wp2_with (at_builtin; refine wpList_append_own _ rfl _ _ 30 rfl w.heap.size 3 i0 (.int .i64 0) 1 8 Tryz.underlying30 hi hz0 hz1 hz2 rfl (by decide) _ _ _ rfl (hown.out.alloc _) ⟨_, 0, none⟩ 1 1 [.int .i64 (z.tmod wd)] rfl rfl ?c1 ?c2 ?c3 ?c4 ?c5 ?_)
      case c1 => intro j u hj; match j, hj with | 0, hj => simp at hj; subst hj; simp [Addr.add]
      case c2 => intro u hu; simp at hu; subst hu; rfl
      case c3 => unfold maxLen; omega
      case c4 => omega
      case c5 => have := Z5.out; simp; omega
      intro v' w2 hown' hgrow _
      have hb2 := Lib.hid (show Below w.heap.size w w2 from by
        have hs := hbr.out.size
        exact (hbr.out.alloc (by omega) _).grown hgrow (by simp; omega) (fun k hk => own_ge hown.out k hk))
      rw [← I_one, ← I_append, show (modW wd zs k).length + 1 = (modW wd zs k ++ [z.tmod wd]).length by simp, ← Hstep.out] at hown'
      have HO2 := Lib.hid hown'
      clear hown hgrow hbr hown' hlen
      go_wp2_with fail
      go_roundw
      case rel => exact ⟨k + 1, by omega, by omega, by go_num, HO2, hb2⟩
      case measure => simp [intOf]; omega
    · have hfin : modW wd zs k = modW wd zs most := by
        unfold modW
        by_cases h8 : k = most
        · rw [h8]
        · rw [List.take_of_length_le (by rw [← Hn.out]; omega), List.take_of_length_le (by rw [← Hn.out]; omega)]
      rw [hfin] at hown
      obtain ⟨A', c', e, hl, -⟩ := own_lies hown.out
      subst e
      have HO := Lib.hid (refof_any A' (modW wd zs most) _ c' wo rfl hl (by have := modW_len wd zs most; omega))
      have HB := hbr
      by_cases hl1 : k < n
      · have d1 : decide (k < n) = true := by simpa using hl1
        have d2 : decide (k < most) = false := by simp; omega
        clear hfin hown hl hbr hlt hl1
        go_wp2_with fail
        refine HO.out.mono ?_
        rintro e w2 ⟨v, rfl, ho, hb2⟩
        obtain ⟨Y, cY, rfl⟩ := slice_row ho
        have HF := Lib.hid (own_base ho HB.out.size)
        have BF := Lib.hid (HB.out.trans (hb2.mono HB.out.size))
        clear ho hb2
        go_wp2_with fail
        go_ret
        exact ⟨⟨⟨Y, _, cY⟩, rfl, HF.out⟩, BF.out⟩
      · have d1 : decide (k < n) = false := by simpa using hl1
        clear hfin hown hl hbr hlt hl1
        go_wp2_with fail
        refine HO.out.mono ?_
        rintro e w2 ⟨v, rfl, ho, hb2⟩
        obtain ⟨Y, cY, rfl⟩ := slice_row ho
        have HF := Lib.hid (own_base ho HB.out.size)
        have BF := Lib.hid (HB.out.trans (hb2.mono HB.out.size))
        clear ho hb2
        go_wp2_with fail
        go_ret
        exact ⟨⟨⟨Y, _, cY⟩, rfl, HF.out⟩, BF.out⟩

/-! Same -/
theorem eqN_all {s X : List Int} : eqN s X X.length = true → s.length = X.length → s = X := fun h hl => by
  have := eqN_eq hl
  rw [this] at h
  simpa using h
/-- Are the first so many rows alike? -/
def rowsN (R S : List (List Int)) : Nat → Bool
  | 0 => true
  | k + 1 => rowsN R S k && R.getD k [] == S.getD k []
theorem rowsN_iff (R S : List (List Int)) (k : Nat) : rowsN R S k = true ↔ ∀ j, j < k → R.getD j [] = S.getD j [] := by
  induction k with
  | zero => simp [rowsN]
  | succ k ih =>
    rw [rowsN, Bool.and_eq_true, ih, beq_iff_eq]
    constructor
    · rintro ⟨h1, h2⟩ j hj
      by_cases h : j < k
      · exact h1 j h
      · obtain rfl : j = k := by omega
        exact h2
    · exact fun h => ⟨fun j hj => h j (by omega), h k (by omega)⟩
theorem rows_ext {R S : List (List Int)} (h : R.length = S.length) (hj : ∀ j, j < R.length → R.getD j [] = S.getD j []) : R = S := by
  apply List.ext_getElem h
  intro i h1 h2
  have := hj i h1
  rw [List.getD_eq_getElem?_getD, List.getD_eq_getElem?_getD, List.getElem?_eq_getElem h1, List.getElem?_eq_getElem h2] at this
  exact this

set_option maxHeartbeats 4000000 in
set_option maxRecDepth 100000 in
theorem same2_any (x y : Sl) (R S : List (List Int)) (w : World) (hx : IsRows w x R) (hy : IsRows w y S) :
    Calls Tryz.prog 21 #[.slice x.A x.n x.c, .slice y.A y.n y.c] w fun e w' => e = .returned (.bool (R == S)) ∧ Below w.heap.size w w' := by
  have HX := Lib.hid hx
  have HY := Lib.hid hy
  have hbx := hx.big
  have hby := hy.big
  obtain ⟨RES, hRES⟩ : ∃ B, B = (R == S) := ⟨_, rfl⟩
  rw [← hRES]
  have HE := Lib.hid hRES
  clear hx hy hRES
  by_cases hl : x.n = y.n
  · have HLN := Lib.hid hl
    have hn : (((x.n : Nat) : Int) != ((y.n : Nat) : Int)) = false := by simp [hl]
    have HBAD : Hid (∀ k, k < x.n → ∀ j, j < (R.getD k []).length → (R.getD k []).getD j 0 ≠ (S.getD k []).getD j 0 → RES = false) := Lib.hid (fun k hk j hj hne => by
      rw [HE.out]
      simp only [beq_eq_false_iff_ne]
      rintro rfl
      exact hne rfl)
    have HBADL : Hid (∀ k, k < x.n → (R.getD k []).length ≠ (S.getD k []).length → RES = false) := Lib.hid (fun k hk hne => by
      rw [HE.out]
      simp only [beq_eq_false_iff_ne]
      rintro rfl
      exact hne rfl)
    have HFIN : Hid (rowsN R S x.n = true → RES = true) := Lib.hid (fun h => by
      rw [HE.out, beq_iff_eq]
      exact rows_ext (by rw [← HX.out.len, ← HY.out.len, HLN.out]) (fun j hj => (rowsN_iff R S x.n).1 h j (by rw [HX.out.len]; exact hj)))
    clear hl
    go_enter Tryz.func21, Tryz.ntmps21
    go_wp2_with fail
    go_loopw [5] (fun i wr => ∃ k : Nat, i = .int .i64 (k : Nat) ∧ k ≤ x.n ∧ Hid (rowsN R S k = true) ∧ Hid (Below w.heap.size w wr)) (fun i _ => x.n - (intOf i).toNat)
    case atStart => exact ⟨0, rfl, by omega, Lib.hid rfl, Lib.hid (Below.refl _ _)⟩
    case round =>
      obtain ⟨k, rfl, hk, H0, HB⟩ := hrel
      obtain ⟨wo, rfl⟩ : ∃ wo, wo = wr := ⟨_, rfl⟩
      by_cases hlt : k < x.n
      · obtain ⟨ad, u, ex, qx, ux⟩ := rows_at (HX.out.below HB.out) k hlt
        obtain ⟨bd, v, ey, qy, vy⟩ := rows_at (HY.out.below HB.out) k (by rw [← HLN.out]; exact hlt)
        have hky : k < y.n := by have := HLN.out; omega
        have EX := Lib.hid ex
        have EY := Lib.hid ey
        rw [ex, ey]
        have UX := Lib.hid ux
        have VY := Lib.hid vy
        have hbu := ux.big
        have hbv := vy.big
        clear ex ey ux vy
        go_upto_region 6 with fail
        go_quiet (fail)
        have HB2 := Lib.hid (below_drewN HB.out nq)
        have QX := Lib.hid (show (wo.drewN nq).cell? (ad.add k) = some (.slice u.A u.n u.c) from qx)
        have QY := Lib.hid (show (wo.drewN nq).cell? (bd.add k) = some (.slice v.A v.n v.c) from qy)
        have UX2 := Lib.hid (UX.out.below (below_drewN (Below.refl _ _) nq))
        have VY2 := Lib.hid (VY.out.below (below_drewN (Below.refl _ _) nq))
        generalize wo.drewN nq = w3 at *
        clear qx qy UX VY HB
        by_cases hul : u.n = v.n
        · have hn2 : (((u.n : Nat) : Int) != ((v.n : Nat) : Int)) = false := by simp [hul]
          have HUV := Lib.hid hul
          clear hul
          go_wp2_with fail
          go_loopw [6] (fun i wr => ∃ j : Nat, i = .int .i64 (j : Nat) ∧ j ≤ u.n ∧ Hid (eqN (R.getD k []) (S.getD k []) j = true) ∧ Hid (Below w3.heap.size w3 wr)) (fun i _ => u.n - (intOf i).toNat)
          case atStart => exact ⟨0, rfl, by omega, Lib.hid rfl, Lib.hid (Below.refl _ _)⟩
          case round =>
            obtain ⟨j, rfl, hj, H1, HB3⟩ := hrel
            have q1 : wr.cell? (ad.add k) = some (.slice u.A u.n u.c) := (HB3.out.cell (lt_of_cell QX.out)).trans QX.out
            by_cases hlj : j < u.n
            · have q2 : wr.cell? (bd.add k) = some (.slice v.A v.n v.c) := (HB3.out.cell (lt_of_cell QY.out)).trans QY.out
              have hjv : j < v.n := by have := HUV.out; omega
              obtain ⟨a1, ea1, q3⟩ := ints_at (UX2.out.below HB3.out) j hlj
              obtain ⟨b1, eb1, q4⟩ := ints_at (VY2.out.below HB3.out) j hjv
              rw [ea1] at q1
              rw [eb1] at q2
              have HST : Hid (eqN (R.getD k []) (S.getD k []) (j + 1) = ((R.getD k []).getD j 0 == (S.getD k []).getD j 0)) := Lib.hid (by rw [eqN, H1.out, Bool.true_and])
              have HNO : Hid ((R.getD k []).getD j 0 ≠ (S.getD k []).getD j 0 → RES = false) := Lib.hid (HBAD.out k hlt j (by rw [← UX2.out.len]; exact hlj))
              generalize (R.getD k []).getD j 0 = z1 at q3 HST HNO
              generalize (S.getD k []).getD j 0 = z2 at q4 HST HNO
              clear ea1 eb1 H1
              by_cases hz : z1 = z2
              · have e1 : (z1 != z2) = false := by simp [hz]
                have H2 : Hid (eqN (R.getD k []) (S.getD k []) (j + 1) = true) := Lib.hid (by rw [HST.out]; simp [hz])
                clear hz HST HNO
                go_upto_region 11 with fail
                go_quiet (fail)
                have HB4 := Lib.hid (below_drewN HB3.out nq)
                generalize wr.drewN nq = w4 at *
                go_wp2_with fail
                go_roundw
                case rel => exact ⟨j + 1, by go_num, by omega, H2, HB4⟩
                case measure => simp [intOf]; omega
              · have e1 : (z1 != z2) = true := by simp [hz]
                have HF := Lib.hid (HNO.out hz)
                clear hz HST HNO
                go_upto_region 11 with fail
                go_quiet (fail)
                have HB4 := Lib.hid (HB2.out.trans ((below_drewN HB3.out nq).mono HB2.out.size))
                generalize wr.drewN nq = w4 at *
                go_wp2_with fail
                go_ret
                exact ⟨ret_bool HF.out.symm, HB4.out⟩
            · have H2 : Hid (rowsN R S (k + 1) = true) := Lib.hid (by
                rw [rowsN, H0.out, Bool.true_and, beq_iff_eq]
                have hlen : (R.getD k []).length = (S.getD k []).length := by rw [← UX2.out.len, ← VY2.out.len, HUV.out]
                refine eqN_all ?_ hlen
                rw [← hlen, ← UX2.out.len, show u.n = j by omega]
                exact H1.out)
              have HB4 := Lib.hid (HB2.out.trans (HB3.out.mono HB2.out.size))
              clear H1 HB3
              go_wp2_with fail
              go_roundw
              case rel => exact ⟨k + 1, by go_num, by omega, H2, HB4⟩
              case measure => simp [intOf]; omega
        · have hn2 : (((u.n : Nat) : Int) != ((v.n : Nat) : Int)) = true := by simp; omega
          have HF := Lib.hid (HBADL.out k hlt (by rw [← UX2.out.len, ← VY2.out.len]; exact hul))
          clear hul
          go_wp2_with fail
          go_ret
          exact ⟨ret_bool HF.out.symm, HB2.out⟩
      · have HF := Lib.hid (HFIN.out (by have := H0.out; rwa [show k = x.n by omega] at this))
        clear H0
        go_wp2_with fail
        go_ret
        exact ⟨ret_bool HF.out.symm, HB.out⟩
  · have hn : (((x.n : Nat) : Int) != ((y.n : Nat) : Int)) = true := by simp; omega
    have HF : Hid (RES = false) := Lib.hid (by
      rw [HE.out]
      simp only [beq_eq_false_iff_ne]
      rintro rfl
      exact hl (by rw [HX.out.len, HY.out.len]))
    clear hl
    go_enter Tryz.func21, Tryz.ntmps21
    go_wp2_with fail
    go_ret
    exact ⟨ret_bool HF.out.symm, Below.refl _ _⟩
end Go.Proofs.YtkhmocbfkpbpfaaGreatDoor

/- Contract of the document's Fits (layer 10): shared by layers 10 to 22. -/
namespace Go.Proofs.YtkhmocbfkpbpfaaGreatDoor
open Go.RowKit Go.Sort

/-- May a constraint of kinds from one to another one be filtered, with these domains? -/
def fitsE (c : ConL) (D : List (List Int)) (first last : Int) : Bool :=
  !decide (c.kind < first) && !decide (last < c.kind) && decide (D.length = c.A.length + c.B.length) && (rightE c 256 == 0) && !D.any (fun l => l.length == 0)

set_option maxHeartbeats 4000000 in
set_option maxRecDepth 100000 in
theorem fits_any (v : ConV) (c : ConL) (x : Sl) (D : List (List Int)) (first last : Int) (w : World) (h : ConIn w v c) (hx : IsRows w x D) :
    Calls Tryz.prog 24 #[v.val c.kind c.K, .slice x.A x.n x.c, .int .i64 first, .int .i64 last] w fun e w' => e = .returned (.bool (fitsE c D first last)) ∧ Below w.heap.size w w' := by
  obtain ⟨wb, hwb⟩ : ∃ wb, cBox w v c.kind c.K = wb := ⟨_, rfl⟩
  have HR : Hid (RBox w.heap.size wb v c ⟨none, 0, 0⟩ [] ∧ Below w.heap.size w wb) := Lib.hid (hwb ▸ ⟨RBox.start h (IsInts.nil _), cBox_below _ _ _ _⟩)
  have HD := Lib.hid (hx.below HR.out.2)
  have hxb := hx.big
  have hab := h.a.big
  have hbb := h.b.big
  have CR : Hid (Calls Tryz.prog 65 #[v.val c.kind c.K, .int .i64 256] wb fun e w' => e = .returned (.int .i64 (rightE c 256)) ∧ Below wb.heap.size wb w') := Lib.hid (by
    rw [right_same]
    exact refright_any v c 256 wb HR.out.1.con (by omega))
  have HV : Hid (fitsE c D first last = (!decide (c.kind < first) && !decide (last < c.kind) && decide (x.n = v.a.n + v.b.n) && (rightE c 256 == 0) && !D.any (fun l => l.length == 0))) := Lib.hid (by unfold fitsE; rw [h.a.len, h.b.len, hx.len])
  have HN : Hid (noneN (fun i => (D.getD i []).length == 0) x.n = !D.any (fun l => l.length == 0)) := Lib.hid (by rw [hx.len]; exact none_rows (fun l => l.length == 0) D)
  obtain ⟨RES, hRES⟩ : ∃ B, B = fitsE c D first last := ⟨_, rfl⟩
  rw [← hRES] at HV ⊢
  have HWB := Lib.hid hwb
  obtain ⟨rr, hrr⟩ : ∃ rr, rr = rightE c 256 := ⟨_, rfl⟩
  rw [← hrr] at CR HV
  obtain ⟨OB, hOB⟩ : ∃ B, B = D.any (fun l => l.length == 0) := ⟨_, rfl⟩
  rw [← hOB] at HV HN
  have d0 := HR.out.1.c0
  have d1 := HR.out.1.c1
  have d2 := HR.out.1.c2
  have d3 := HR.out.1.c3
  have d4 := HR.out.1.c4
  have d5 := HR.out.1.c5
  have d6 := HR.out.1.c6
  have d7 := HR.out.1.c7
  have ws : IntKind.i64.wrap (((v.a.n : Nat) : Int) + ((v.b.n : Nat) : Int)) = ((v.a.n : Nat) : Int) + ((v.b.n : Nat) : Int) := IntWalk.i64_in _ (by omega)
  clear hwb h hx hRES hrr hOB
  cases g1 : decide (c.kind < first)
  case' true => have HF : Hid (RES = false) := Lib.hid (by rw [HV.out, g1]; rfl)
  case' false => cases g2 : decide (last < c.kind)
  case' false.true => have HF : Hid (RES = false) := Lib.hid (by rw [HV.out, g2]; simp)
  case' false.false => by_cases g3 : x.n = v.a.n + v.b.n
  case' neg =>
    have HF : Hid (RES = false) := Lib.hid (by rw [HV.out, decide_eq_false g3]; simp)
    have g4 : (((x.n : Nat) : Int) != ((v.a.n : Nat) : Int) + ((v.b.n : Nat) : Int)) = true := by simp; omega
    clear g3
  case' pos =>
    have HF0 : Hid (RES = ((rr == 0) && !OB)) := Lib.hid (by rw [HV.out, g1, g2, decide_eq_true g3]; simp)
    have g4 : (((x.n : Nat) : Int) != ((v.a.n : Nat) : Int) + ((v.b.n : Nat) : Int)) = false := by simp; omega
    clear g3
  case' pos =>
    clear HV
    go_enter Tryz.func24, Tryz.ntmps24
    go_upto_region 1 with fail
    change Code.wp _ _ _ _ (cBox w v c.kind c.K)
    rw [HWB.out]
    clear HWB
    go_wp2_with fail
    refine CR.out.mono ?_
    rintro e w1 ⟨rfl, b1⟩
    have HB1 := Lib.hid (HR.out.2.trans (b1.mono HR.out.2.size))
    have HD1 := Lib.hid (HD.out.below b1)
    clear b1 CR HD HR d0 d1 d2 d3 d4 d5 d6 d7
    cases g : (rr == 0)
    · have gn : (rr != 0) = true := by unfold bne; rw [g]; rfl
      have HW : Hid (RES = false) := Lib.hid (by rw [HF0.out, g]; simp)
      clear HF0 HN
      go_wp2_with fail
      go_ret
      exact ⟨ret_bool HW.out.symm, HB1.out⟩
    · have gn : (rr != 0) = false := by unfold bne; rw [g]; rfl
      have HW : Hid (RES = !OB) := Lib.hid (by rw [HF0.out, g]; simp)
      clear HF0
      go_wp2_with fail
      go_loopw [10] (fun i wr => ∃ (k : Nat), i = .int .i64 (k : Nat) ∧ k ≤ x.n ∧ Hid (noTo (fun i => (D.getD i []).length == 0) k) ∧ Hid (IsRows wr x D ∧ Below w.heap.size w wr)) (fun i _ => x.n - (intOf i).toNat)
      case atStart => exact ⟨0, rfl, by omega, Lib.hid (noTo_zero _), Lib.hid ⟨HD1.out, HB1.out⟩⟩
      case round =>
        clear HD1 HB1
        obtain ⟨k, rfl, hk, H0, HRR⟩ := hrel
        by_cases hlt : k < x.n
        · obtain ⟨ad, u, ex, qx, ux⟩ := rows_at HRR.out.1 k hlt
          rw [ex]
          have HST : Hid (((D.getD k []).length == 0) = false → noTo (fun i => (D.getD i []).length == 0) (k + 1)) := Lib.hid (fun e => noTo_step H0.out e)
          have HBAD : Hid (((D.getD k []).length == 0) = true → RES = false) := Lib.hid (fun e => by rw [HW.out, ← HN.out]; exact none_no (k := k) hlt e)
          have HL : Hid (u.n = (D.getD k []).length) := Lib.hid ux.len
          have hub := ux.big
          clear ex ux H0
          by_cases hz : u.n = 0
          · have e1 : (((u.n : Nat) : Int) == 0) = true := by simp [hz]
            have HF := Lib.hid (HBAD.out (by rw [← HL.out]; simp [hz]))
            clear hz HBAD HST
            go_wp2_with fail
            go_ret
            exact ⟨ret_bool HF.out.symm, HRR.out.2⟩
          · have e1 : (((u.n : Nat) : Int) == 0) = false := by simp [hz]
            have H2 := Lib.hid (HST.out (by rw [← HL.out]; simp [hz]))
            clear hz HBAD HST
            go_wp2_with fail
            go_roundw
            case rel => exact ⟨k + 1, by go_num, by omega, H2, HRR⟩
            case measure => simp [intOf]; omega
        · have HF : Hid (RES = true) := Lib.hid (by
            rw [HW.out, ← HN.out]
            exact none_yes (by have := H0.out; rwa [show k = x.n by omega] at this))
          clear H0 HN
          go_wp2_with fail
          go_ret
          exact ⟨ret_bool HF.out.symm, HRR.out.2⟩
  all_goals
    clear HV CR
    go_enter Tryz.func24, Tryz.ntmps24
    go_upto_region 1 with fail
    change Code.wp _ _ _ _ (cBox w v c.kind c.K)
    rw [HWB.out]
    clear HWB
    go_wp2_with fail
    go_ret
    exact ⟨ret_bool HF.out.symm, HR.out.2⟩
end Go.Proofs.YtkhmocbfkpbpfaaGreatDoor

/- What is left of the domains of a product, a quotient, a remainder: over lists. No walk. -/
namespace Go.Proofs.YtkhmocbfkpbpfaaGreatDoor
open Go.RowKit

/-- What a kind makes of two numbers. -/
def kindV (kind x y : Int) : Option Int :=
  if kind = 5 then some (x * y) else if kind = 9 then some (min x y) else if kind = 10 then some (max x y) else if y = 0 then none else if kind = 6 then some (x.tdiv y) else some (x.tmod y)
theorem kindV_9 (x y : Int) : kindV 9 x y = some (min x y) := by unfold kindV; rw [if_neg (by decide), if_pos rfl]
theorem kindV_10 (x y : Int) : kindV 10 x y = some (max x y) := by unfold kindV; rw [if_neg (by decide), if_neg (by decide), if_pos rfl]
/-- A pair, if what it makes is among the third numbers. -/
def hitP (f : Int → Int → Option Int) (C : List Int) (a b : Int) : Option (Int × Int × Int) := (f a b).bind fun r => if r ∈ C then some (a, b, r) else none
def hitsR (f : Int → Int → Option Int) (C : List Int) (a : Int) (B : List Int) : List (Int × Int × Int) := B.filterMap (hitP f C a)
def hitsE (f : Int → Int → Option Int) (C A B : List Int) : List (Int × Int × Int) := A.flatMap fun a => hitsR f C a B
def h1 (l : List (Int × Int × Int)) : List Int := l.map fun t => t.1
def h2 (l : List (Int × Int × Int)) : List Int := l.map fun t => t.2.1
def h3 (l : List (Int × Int × Int)) : List Int := l.map fun t => t.2.2

theorem hitsR_step (f : Int → Int → Option Int) (C : List Int) (a : Int) (B : List Int) (k : Nat) (h : k < B.length) : hitsR f C a (B.take (k + 1)) = hitsR f C a (B.take k) ++ (hitP f C a (B.getD k 0)).toList := by
  unfold hitsR
  rw [List.take_succ_eq_append_getElem h, List.filterMap_append, List.getD_eq_getElem?_getD, List.getElem?_eq_getElem h]
  congr 1
theorem hitsE_step (f : Int → Int → Option Int) (C A B : List Int) (k : Nat) (h : k < A.length) : hitsE f C (A.take (k + 1)) B = hitsE f C (A.take k) B ++ hitsR f C (A.getD k 0) B := by
  unfold hitsE
  rw [List.take_succ_eq_append_getElem h, List.flatMap_append, List.getD_eq_getElem?_getD, List.getElem?_eq_getElem h]
  simp
theorem hitsR_len (f : Int → Int → Option Int) (C : List Int) (a : Int) (B : List Int) : (hitsR f C a B).length ≤ B.length := List.length_filterMap_le _ _
theorem hitsE_len (f : Int → Int → Option Int) (C A B : List Int) : (hitsE f C A B).length ≤ A.length * B.length := by
  induction A with
  | nil => simp [hitsE]
  | cons a A ih =>
    have := hitsR_len f C a B
    have e : hitsE f C (a :: A) B = hitsR f C a B ++ hitsE f C A B := by simp [hitsE]
    rw [e, List.length_append, List.length_cons, Nat.add_mul]
    omega
theorem mem_hitP {f : Int → Int → Option Int} {C : List Int} {a b : Int} {t : Int × Int × Int} : t ∈ (hitP f C a b).toList ↔ t.1 = a ∧ t.2.1 = b ∧ f a b = some t.2.2 ∧ t.2.2 ∈ C := by
  obtain ⟨x, y, z⟩ := t
  unfold hitP
  cases hf : f a b with
  | none => simp
  | some r =>
    by_cases hr : r ∈ C
    · simp only [Option.bind_some, if_pos hr, Option.toList_some, List.mem_singleton, Prod.mk.injEq, Option.some.injEq]
      constructor
      · rintro ⟨rfl, rfl, rfl⟩; exact ⟨rfl, rfl, rfl, hr⟩
      · rintro ⟨rfl, rfl, rfl, -⟩; exact ⟨rfl, rfl, rfl⟩
    · simp only [Option.bind_some, if_neg hr, Option.toList_none, List.not_mem_nil, false_iff, Option.some.injEq]
      rintro ⟨rfl, rfl, rfl, h⟩; exact hr h
theorem mem_hitsE {f : Int → Int → Option Int} {C A B : List Int} {t : Int × Int × Int} : t ∈ hitsE f C A B ↔ t.1 ∈ A ∧ t.2.1 ∈ B ∧ f t.1 t.2.1 = some t.2.2 ∧ t.2.2 ∈ C := by
  unfold hitsE hitsR
  simp only [List.mem_flatMap, List.mem_filterMap]
  constructor
  · rintro ⟨a, ha, b, hb, h⟩
    obtain ⟨rfl, rfl, h3, h4⟩ := mem_hitP.1 (show t ∈ (hitP f C a b).toList by rw [h]; simp)
    exact ⟨ha, hb, h3, h4⟩
  · rintro ⟨ha, hb, h3, h4⟩
    refine ⟨t.1, ha, t.2.1, hb, ?_⟩
    have := mem_hitP.2 (⟨rfl, rfl, h3, h4⟩ : t.1 = t.1 ∧ t.2.1 = t.2.1 ∧ f t.1 t.2.1 = some t.2.2 ∧ t.2.2 ∈ C)
    rw [Option.mem_toList] at this
    exact this
theorem h1_app (l m : List (Int × Int × Int)) : h1 (l ++ m) = h1 l ++ h1 m := by simp [h1]
theorem h2_app (l m : List (Int × Int × Int)) : h2 (l ++ m) = h2 l ++ h2 m := by simp [h2]
theorem h3_app (l m : List (Int × Int × Int)) : h3 (l ++ m) = h3 l ++ h3 m := by simp [h3]

def optI (o : Option Int) : Value := .tuple #[.int .i64 (o.getD 0), .bool o.isSome]
theorem prod_lim {a b : Int} (ha : -2000000 ≤ a ∧ a ≤ 2000000) (hb : -2000000 ≤ b ∧ b ≤ 2000000) : -4000000000000 ≤ a * b ∧ a * b ≤ 4000000000000 := by
  have h : (a * b).natAbs ≤ 2000000 * 2000000 := by
    rw [Int.natAbs_mul]
    exact Nat.mul_le_mul (by omega) (by omega)
  omega
theorem hits_one (f : Int → Int → Option Int) (a b c : Int) : hitsE f [c] [a] [b] = if f a b = some c then [(a, b, c)] else [] := by
  unfold hitsE hitsR hitP
  cases hf : f a b with
  | none => simp [hf]
  | some r =>
    by_cases hr : r = c
    · subst hr; simp [hf]
    · simp [hf, hr]
/-- The least and the greatest of four. -/
def min4 (a b c d : Int) : Int := min (min (min a b) c) d
def max4 (a b c d : Int) : Int := max (max (max a b) c) d
def lowP (A B : List Int) : Int := min4 (A.head?.getD 0 * B.head?.getD 0) (A.head?.getD 0 * B.getLast?.getD 0) (A.getLast?.getD 0 * B.head?.getD 0) (A.getLast?.getD 0 * B.getLast?.getD 0)
def highP (A B : List Int) : Int := max4 (A.head?.getD 0 * B.head?.getD 0) (A.head?.getD 0 * B.getLast?.getD 0) (A.getLast?.getD 0 * B.head?.getD 0) (A.getLast?.getD 0 * B.getLast?.getD 0)

/-- What is left of three domains, none empty. -/
def mulL (kind : Int) (A B C : List Int) : List (List Int) :=
  if A.length * B.length ≤ 4096 then [ofL (h1 (hitsE (kindV kind) C A B)), ofL (h2 (hitsE (kindV kind) C A B)), ofL (h3 (hitsE (kindV kind) C A B))]
  else if kind = 5 then [A, B, (C.filter fun u => decide (lowP A B ≤ u)).filter fun u => decide (u ≤ highP A B)]
  else [A, B.filter fun u => decide (u ≠ 0), C]
/-- What is left; nothing, if a domain is empty, or the constraint isn't one of these. -/
def mulE (c : ConL) (D : List (List Int)) : Option (List (List Int)) :=
  if fitsE c D 5 7 = true then
    (if (mulL c.kind (D.getD 0 []) (D.getD 1 []) (D.getD 2 [])).any (fun l => l.length == 0) = true then none else some (mulL c.kind (D.getD 0 []) (D.getD 1 []) (D.getD 2 [])))
  else none
section
variable {f : Int → Int → Option Int} {A B C : List Int}
theorem mem_h1 {v : Int} : v ∈ h1 (hitsE f C A B) ↔ v ∈ A ∧ ∃ b r, b ∈ B ∧ r ∈ C ∧ f v b = some r := by
  unfold h1
  rw [List.mem_map]
  constructor
  · rintro ⟨⟨a, b, r⟩, ht, rfl⟩
    obtain ⟨q1, q2, q3, q4⟩ := mem_hitsE.1 ht
    exact ⟨q1, b, r, q2, q4, q3⟩
  · rintro ⟨q1, b, r, q2, q4, q3⟩
    exact ⟨(v, b, r), mem_hitsE.2 ⟨q1, q2, q3, q4⟩, rfl⟩
theorem mem_h2 {v : Int} : v ∈ h2 (hitsE f C A B) ↔ v ∈ B ∧ ∃ a r, a ∈ A ∧ r ∈ C ∧ f a v = some r := by
  unfold h2
  rw [List.mem_map]
  constructor
  · rintro ⟨⟨a, b, r⟩, ht, rfl⟩
    obtain ⟨q1, q2, q3, q4⟩ := mem_hitsE.1 ht
    exact ⟨q2, a, r, q1, q4, q3⟩
  · rintro ⟨q2, a, r, q1, q4, q3⟩
    exact ⟨(a, v, r), mem_hitsE.2 ⟨q1, q2, q3, q4⟩, rfl⟩
theorem mem_h3 {v : Int} : v ∈ h3 (hitsE f C A B) ↔ v ∈ C ∧ ∃ a b, a ∈ A ∧ b ∈ B ∧ f a b = some v := by
  unfold h3
  rw [List.mem_map]
  constructor
  · rintro ⟨⟨a, b, r⟩, ht, rfl⟩
    obtain ⟨q1, q2, q3, q4⟩ := mem_hitsE.1 ht
    exact ⟨q4, a, b, q1, q2, q3⟩
  · rintro ⟨q4, a, b, q1, q2, q3⟩
    exact ⟨(a, b, v), mem_hitsE.2 ⟨q1, q2, q3, q4⟩, rfl⟩
theorem h_ne {l : List (Int × Int × Int)} (h : l ≠ []) : h1 l ≠ [] ∧ h2 l ≠ [] ∧ h3 l ≠ [] := by
  refine ⟨?_, ?_, ?_⟩ <;> (intro e; apply h; simpa [h1, h2, h3] using e)
end
end Go.Proofs.YtkhmocbfkpbpfaaGreatDoor
