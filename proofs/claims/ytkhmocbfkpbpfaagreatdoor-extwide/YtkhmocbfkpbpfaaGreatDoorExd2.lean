/- Contracts of the document's less, minus, abs (layer 12). -/
import Derived.Test.YtkhmocbfkpbpfaaGreatDoorExth0
import Derived.Test.YtkhmocbfkpbpfaaGreatDoorExt3
import Derived.Test.YtkhmocbfkpbpfaaGreatDoorMrd2
import Derived.Test.YtkhmocbfkpbpfaaGreatDoorLay00
namespace Go.Proofs.YtkhmocbfkpbpfaaGreatDoor
open Go.RowKit Go.Sort

theorem rless_any (a b : Int) (w : World) : Calls Tryz.prog 126 #[.int .i64 a, .int .i64 b] w fun e w' => e = .returned (.int .i64 (selV 9 a b)) ∧ w = w' := by
  have HV : Hid (selV 9 a b = min a b) := Lib.hid rfl
  by_cases g : a < b
  · have HW : Hid (min a b = a) := Lib.hid (by omega)
    have t1 : decide (a < b) = true := by simpa using g
    clear g
    go_enter Tryz.func126, Tryz.ntmps126
    go_wp2_with fail
    go_ret
    exact ⟨by rw [HV.out, HW.out]; rfl, rfl⟩
  · have HW : Hid (min a b = b) := Lib.hid (by omega)
    have t1 : decide (a < b) = false := by simpa using g
    clear g
    go_enter Tryz.func126, Tryz.ntmps126
    go_wp2_with fail
    go_ret
    exact ⟨by rw [HV.out, HW.out]; rfl, rfl⟩

/-- All of a list with the other sign, the last one first; from a place on. -/
def minusTo (L : List Int) (k : Nat) : List Int := ((L.drop k).map fun v => -v).reverse
def minusE (L : List Int) : List Int := (L.map fun v => -v).reverse
theorem minusTo_step (L : List Int) (k : Nat) (h : k < L.length) : minusTo L k = minusTo L (k + 1) ++ [-(L.getD k 0)] := by
  unfold minusTo
  rw [List.drop_eq_getElem_cons h, List.map_cons, List.reverse_cons, List.getD_eq_getElem?_getD, List.getElem?_eq_getElem h]
  rfl
theorem minusTo_all (L : List Int) : minusTo L L.length = [] := by simp [minusTo]
theorem minusTo_zero (L : List Int) : minusTo L 0 = minusE L := by simp [minusTo, minusE]

set_option maxHeartbeats 2000000 in
set_option maxRecDepth 100000 in
theorem minus_any (x : Sl) (L : List Int) (w : World) (h : IsInts w x L) (hb : L.length ≤ 200000) (iL : ∀ v ∈ L, -1000000 ≤ v ∧ v ≤ 1000000) :
    Calls Tryz.prog 62 #[.slice x.A x.n x.c] w fun e w' => (∃ y : Sl, e = .returned (.slice y.A y.n y.c) ∧ Row3 w' w.heap.size y (minusE L)) ∧ Below w.heap.size w w' := by
  obtain ⟨A, n, c⟩ := x
  have hn : n = L.length := h.len
  subst hn
  have HI := Lib.hid h
  have HIL := Lib.hid iL
  have w0 : IntKind.i64.wrap (((L.length : Nat) : Int) - 1) = ((L.length : Nat) : Int) - 1 := IntWalk.i64_in _ (by omega)
  have HA0 : Hid (minusTo L L.length = []) := Lib.hid (minusTo_all L)
  have HZ0 : Hid (minusTo L 0 = minusE L) := Lib.hid (minusTo_zero L)
  clear h iL
  obtain ⟨ln, hln⟩ : ∃ ln, ln = L.length := ⟨_, rfl⟩
  have HLN := Lib.hid hln
  rw [← hln] at w0 HA0 HI hb ⊢
  clear hln
  go_enter Tryz.func62, Tryz.ntmps62
  go_wp2_with fail
  go_loopw [3, 4] (fun s i wr => ∃ (k : Nat) (y : Sl) (z : Int), s = .slice y.A y.n y.c ∧ i = .int .i64 z ∧ Hid (z = (k : Int) - 1) ∧ k ≤ ln ∧ Hid (SepL w.heap.size wr [(y, minusTo L k)]) ∧ Hid (Below w.heap.size w wr)) (fun _ i _ => (intOf i + 1).toNat)
  case atStart => exact ⟨ln, ⟨none, 0, 0⟩, _, rfl, rfl, Lib.hid rfl, Nat.le_refl _, Lib.hid (by rw [HA0.out]; exact (SepL.nil _ w (Nat.le_refl _)).cons (Below.refl _ _) (Row3.nil _ _) (by intro g hg; cases hg)), Lib.hid (Below.refl _ _)⟩
  case round =>
    obtain ⟨k, y, z, rfl, rfl, HZ, hk, HS, HB⟩ := hrel
    clear w0
    cases k with
    | zero =>
      have t1 : decide ((0 : Int) ≤ z) = false := by have := HZ.out; simp; omega
      have HR := Lib.hid (HS.out.row (k := 0) rfl)
      clear hk
      go_wp2_with fail
      go_ret
      exact ⟨⟨y, rfl, by have := HR.out; rwa [HZ0.out] at this⟩, HB.out⟩
    | succ m =>
      have hzm : z = ((m : Nat) : Int) := by have := HZ.out; omega
      subst hzm
      clear HZ
      have hlt : m < ln := by omega
      obtain ⟨ad, eA, hbk, hcl⟩ := (HI.out.below HB.out).lies (show 0 < ln by omega)
      simp only at eA
      subst eA
      have hv : wr.cell? (ad.add m) = some (.int .i64 (L.getD m 0)) := hcl m hlt
      have hin := HIL.out _ (getD_mem L m (by rw [← HLN.out]; exact hlt))
      have HST := Lib.hid (minusTo_step L m (by rw [← HLN.out]; exact hlt))
      have NL : Hid ((minusTo L (m + 1)).length < 1000000) := Lib.hid (by
        have h := HLN.out
        unfold minusTo
        simp only [List.length_reverse, List.length_map, List.length_drop]
        omega)
      obtain ⟨vv, hvv⟩ : ∃ vv, vv = L.getD m 0 := ⟨_, rfl⟩
      rw [← hvv] at hv hin HST
      have wn : IntKind.i64.wrap (-vv) = -vv := IntWalk.i64_in _ (by omega)
      have w1 : IntKind.i64.wrap (((m : Nat) : Int) - 1) = ((m : Nat) : Int) - 1 := IntWalk.i64_in _ (by omega)
      clear hvv hcl hbk hin
      go_wp2_with (at_builtin; refine wpList_append_sep rfl _ _ 30 rfl Tryz.underlying30 Tryz.info3 HS.out 0 y _ (-vv) rfl rfl rfl NL.out ?_; intro y1 w4 S4 b4; have HS4 := Lib.hid S4; have HB4 := Lib.hid (HB.out.trans b4); clear S4 b4)
      go_roundw
      case rel => exact ⟨m, y1, _, rfl, rfl, Lib.hid rfl, by omega, Lib.hid (by rw [HST.out]; exact HS4.out), HB4⟩
      case measure => simp [intOf]

/-- A hit of an absolute value, by its places. -/
def hitA (A B : List Int) (i k _j : Nat) : Prop := absV (A.getD i 0) = B.getD k 0
/-- Two rows made into a slice. -/
theorem rows_build2 {W : World} {y1 y2 : Sl} {L1 L2 : List Int} (h1 : IsInts W y1 L1) (h2 : IsInts W y2 L2) :
    IsRows (W.alloc (.cells #[.slice y1.A y1.n y1.c, .slice y2.A y2.n y2.c] 30)) ⟨some ⟨W.heap.size, 0, none⟩, 2, 2⟩ [L1, L2] := by
  have b := below1 W (.cells #[.slice y1.A y1.n y1.c, .slice y2.A y2.n y2.c] 30)
  have hn := heap_alloc_new W (.cells #[.slice y1.A y1.n y1.c, .slice y2.A y2.n y2.c] 30)
  refine ⟨rfl, by simp, fun _ => ⟨⟨W.heap.size, 0, none⟩, rfl, (Array.getElem?_eq_some_iff.1 hn).1, fun i hi => ?_⟩⟩
  match i, hi with
  | 0, _ => exact ⟨y1, by rw [add_zero]; exact blk_cell hn rfl, h1.below b⟩
  | 1, _ => exact ⟨y2, by simp [Addr.add], h2.below b⟩

set_option maxHeartbeats 8000000 in
set_option maxRecDepth 100000 in
theorem refabs_walk (x : Sl) (A Bs : List Int) (w : World) (h : IsRows w x [A, Bs]) (hA : A.length ≤ 200000) (hB : Bs.length ≤ 200000) (iA : ∀ v ∈ A, -1000000 ≤ v ∧ v ≤ 1000000) :
    Calls Tryz.prog 59 #[.slice x.A x.n x.c] w fun e w' => (∃ (an : Bool) (MA MB MC : List Bool), Marks (hitA A Bs) A.length Bs.length 1 A.length 0 0 MA MB MC an ∧
      ∃ (y : Sl), e = .returned (.tuple #[.slice y.A y.n y.c, .bool an]) ∧ IsRows w' y (if an = true then [thoseE A MA A.length, thoseE Bs MB Bs.length] else [])) ∧ Below w.heap.size w w' := by
  obtain ⟨xA, xn, xc⟩ := x
  have hxn : xn = 2 := h.len
  subst hxn
  obtain ⟨ad, uA, e0, c0, hA0⟩ := rows_at h 0 (show 0 < 2 by omega)
  obtain ⟨ad1, uB, e1, c1, hB0⟩ := rows_at h 1 (show 1 < 2 by omega)
  simp only at e0 e1
  subst e0
  obtain rfl : ad = ad1 := Option.some.inj e1
  obtain ⟨ab, ao, af⟩ := ad
  have c0 : w.cell? ⟨ab, ao, af⟩ = some (.slice uA.A uA.n uA.c) := by rw [add_zero] at c0; exact c0
  have c1 : w.cell? ⟨ab, ao + 1, none⟩ = some (.slice uB.A uB.n uB.c) := by simpa [Addr.add] using c1
  obtain ⟨aA, aN, aC⟩ := uA
  obtain ⟨bA, bN, bC⟩ := uB
  have hA1 : IsInts w ⟨aA, aN, aC⟩ A := hA0
  have hB1 : IsInts w ⟨bA, bN, bC⟩ Bs := hB0
  obtain rfl : aN = A.length := hA1.len
  obtain rfl : bN = Bs.length := hB1.len
  have HA := Lib.hid hA1
  have HB := Lib.hid hB1
  have HIA := Lib.hid iA
  have mA := make_bits A.length hA
  have mB := make_bits Bs.length hB
  obtain ⟨wa, hwa⟩ : ∃ wa, w.alloc (.cells (Array.replicate A.length (Value.bool false)) 4) = wa := ⟨_, rfl⟩
  obtain ⟨wb, hwb⟩ : ∃ wb, wa.alloc (.cells (Array.replicate Bs.length (Value.bool false)) 4) = wb := ⟨_, rfl⟩
  have n1 : MarkB wa w.heap.size (List.replicate A.length false) := hwa ▸ mark_new w _
  have n2 : MarkB wb wa.heap.size (List.replicate Bs.length false) := hwb ▸ mark_new wa _
  have ba : Below w.heap.size w wa := hwa ▸ below1 w _
  have bb : Below wa.heap.size wa wb := hwb ▸ below1 wa _
  have b0 : Below w.heap.size w wb := ba.trans (bb.mono ba.size)
  have l1 : w.heap.size < wa.heap.size := n1.lt
  have HM0 : Hid (MarkB wb w.heap.size (List.replicate A.length false) ∧ MarkB wb wa.heap.size (List.replicate Bs.length false)) := Lib.hid ⟨n1.below bb, n2⟩
  have HL : Hid (w.heap.size < wa.heap.size) := Lib.hid l1
  have B0 := Lib.hid b0
  have adlt : ab < w.heap.size := World.block_lt_of_cell? _ _ c0
  have qa : ∀ {W : World}, Below w.heap.size w W → W.cell? ⟨ab, ao, af⟩ = some (.slice aA A.length aC) := fun hW => (hW.cell (p := ⟨ab, ao, af⟩) adlt).trans c0
  have qb : ∀ {W : World}, Below w.heap.size w W → W.cell? ⟨ab, ao + 1, none⟩ = some (.slice bA Bs.length bC) := fun hW => (hW.cell (p := ⟨ab, ao + 1, none⟩) adlt).trans c1
  have HQ := Lib.hid (fun W (hW : Below w.heap.size w W) => And.intro (qa hW) (qb hW))
  have p1 : wa.cell? ⟨ab, ao + 1, none⟩ = some (.slice bA Bs.length bC) := qb ba
  clear hA0 hB0 hA1 hB1 h n1 n2 ba bb b0 l1 qa qb e1 adlt iA
  go_enter Tryz.func59, Tryz.ntmps59
  go_upto_region 3 with fail
  clear hwa hwb mA mB p1 c0 c1
  obtain ⟨ga, hga⟩ : ∃ g, g = w.heap.size := ⟨_, rfl⟩
  obtain ⟨gb, hgb⟩ : ∃ g, g = wa.heap.size := ⟨_, rfl⟩
  have HGA := Lib.hid hga
  rw [← hga, ← hgb] at HM0
  rw [← hga, ← hgb] at HL
  rw [← hga, ← hgb]
  clear hga hgb
  go_wp2_with fail
  go_loopw [6, 7] (fun a b wr => ∃ (i : Nat) (MA MB MC : List Bool) (an : Bool), a = .bool an ∧ b = .int .i64 (i : Nat) ∧ i ≤ A.length ∧ Hid (Marks (hitA A Bs) A.length Bs.length 1 i 0 0 MA MB MC an) ∧ Hid (MarkB wr ga MA ∧ MarkB wr gb MB) ∧ Hid (Below w.heap.size w wr)) (fun _ b _ => A.length - (intOf b).toNat)
  case atStart => exact ⟨0, _, _, _, false, rfl, rfl, by omega, Lib.hid (Marks.start _ _ _ _), HM0, B0⟩
  case round =>
    clear HM0 B0
    obtain ⟨i, MA, MB, MC, an, rfl, rfl, hi, HMK, HMB, HBR⟩ := hrel
    obtain ⟨q0, -⟩ := HQ.out wr HBR.out
    by_cases hlt : i < A.length
    · obtain ⟨wo, rfl⟩ : ∃ wo, wo = wr := ⟨_, rfl⟩
      go_wp2_with fail
      go_loopw [6, 8] (fun a b wr => ∃ (k : Nat) (MA MB MC : List Bool) (an : Bool), a = .bool an ∧ b = .int .i64 (k : Nat) ∧ k ≤ Bs.length ∧ Hid (Marks (hitA A Bs) A.length Bs.length 1 i k 0 MA MB MC an) ∧ Hid (MarkB wr ga MA ∧ MarkB wr gb MB) ∧ Hid (Below w.heap.size w wr)) (fun _ b _ => Bs.length - (intOf b).toNat)
      case atStart => exact ⟨0, MA, MB, MC, an, rfl, rfl, by omega, HMK, HMB, HBR⟩
      case round =>
        clear HMK HMB HBR q0
        obtain ⟨k, MA, MB, MC, an, rfl, rfl, hk, HMK, HMB, HBR⟩ := hrel
        obtain ⟨q0, q1⟩ := HQ.out wr HBR.out
        by_cases hltk : k < Bs.length
        · obtain ⟨adA, eA, hbA, hcA⟩ := (HA.out.below HBR.out).lies (show 0 < A.length by omega)
          obtain ⟨adB, eB, hbB, hcB⟩ := (HB.out.below HBR.out).lies (show 0 < Bs.length by omega)
          simp only at eA eB
          have va : wr.cell? (adA.add i) = some (.int .i64 (A.getD i 0)) := hcA i hlt
          have vb : wr.cell? (adB.add k) = some (.int .i64 (Bs.getD k 0)) := hcB k hltk
          have inA := HIA.out _ (getD_mem A i hlt)
          subst eA
          subst eB
          have HHIT : Hid (hitA A Bs i k 0 ↔ absV (A.getD i 0) = Bs.getD k 0) := Lib.hid Iff.rfl
          obtain ⟨av, hav⟩ : ∃ v, v = A.getD i 0 := ⟨_, rfl⟩
          obtain ⟨bv, hbv⟩ : ∃ v, v = Bs.getD k 0 := ⟨_, rfl⟩
          rw [← hav] at va HHIT inA
          rw [← hbv] at vb HHIT
          have wn : IntKind.i64.wrap (-av) = -av := IntWalk.i64_in _ (by omega)
          clear hcA hcB hbA hbB inA hav hbv
          have HS : Hid ((decide (av < 0) = true ∧ absV av = -av) ∨ (decide (av < 0) = false ∧ absV av = av)) := Lib.hid (by
            unfold absV
            by_cases g : av < 0
            · exact .inl ⟨by simpa using g, by omega⟩
            · exact .inr ⟨by simpa using g, by omega⟩)
          by_cases hh : absV av = bv
          · have HNX := Lib.hid (HMK.out.yes (HHIT.out.2 hh) hlt hltk (show 0 < 1 by omega)).next
            have hlA : i < MA.length := by rw [HMK.out.la]; exact hlt
            have hlB : k < MB.length := by rw [HMK.out.lb]; exact hltk
            have LL := HL.out
            have LG := HGA.out
            have m1 := HMB.out.1
            have a1 := m1.cell hlA
            have f1 := m1.free i
            obtain ⟨x1, hx1⟩ : ∃ x1, wr.setCell ⟨ga, i, none⟩ (.bool true) = x1 := ⟨_, rfl⟩
            have M1 : Hid (MarkB x1 ga (MA.set i true) ∧ MarkB x1 gb MB) := Lib.hid (hx1 ▸ ⟨m1.put i, HMB.out.2.far (by omega) i _⟩)
            have a2 := M1.out.2.cell hlB
            have f2 := M1.out.2.free k
            obtain ⟨x2, hx2⟩ : ∃ x2, x1.setCell ⟨gb, k, none⟩ (.bool true) = x2 := ⟨_, rfl⟩
            have M2 : Hid (MarkB x2 ga (MA.set i true) ∧ MarkB x2 gb (MB.set k true)) := Lib.hid (hx2 ▸ ⟨M1.out.1.far (by omega) k _, M1.out.2.put k⟩)
            have y1 := HBR.out.setCell (p := ⟨ga, i, none⟩) (show w.heap.size ≤ ga by omega) (.bool true)
            rw [hx1] at y1
            have y2 := y1.setCell (p := ⟨gb, k, none⟩) (show w.heap.size ≤ gb by omega) (.bool true)
            rw [hx2] at y2
            have B3 := Lib.hid y2
            clear m1 LL LG HMB HBR HMK M1 y1 y2 HHIT
            rcases HS.out with ⟨t1, e1⟩ | ⟨t1, e1⟩
            · have t2 : (-av == bv) = true := by rw [← e1, hh]; simp
              clear e1 hh HS
              go_wp2_with fail
              go_roundw
              case rel => exact ⟨k + 1, _, _, _, true, rfl, by go_num, by omega, HNX, M2, B3⟩
              case measure => simp [intOf]; omega
            · have t2 : (av == bv) = true := by rw [← hh, e1]; simp
              clear e1 hh HS
              go_wp2_with fail
              go_roundw
              case rel => exact ⟨k + 1, _, _, _, true, rfl, by go_num, by omega, HNX, M2, B3⟩
              case measure => simp [intOf]; omega
          · have HNX := Lib.hid (HMK.out.skip (fun j (q : hitA A Bs i k j) => hh (HHIT.out.1 q)))
            clear HHIT HMK
            rcases HS.out with ⟨t1, e1⟩ | ⟨t1, e1⟩
            · have t2 : (-av == bv) = false := by rw [beq_eq_false_iff_ne, ← e1]; exact hh
              clear e1 hh HS
              go_wp2_with fail
              go_roundw
              case rel => exact ⟨k + 1, MA, MB, MC, an, rfl, by go_num, by omega, HNX, HMB, HBR⟩
              case measure => simp [intOf]; omega
            · have t2 : (av == bv) = false := by rw [beq_eq_false_iff_ne, ← e1]; exact hh
              clear e1 hh HS
              go_wp2_with fail
              go_roundw
              case rel => exact ⟨k + 1, MA, MB, MC, an, rfl, by go_num, by omega, HNX, HMB, HBR⟩
              case measure => simp [intOf]; omega
        · have HNX := Lib.hid ((show Marks (hitA A Bs) A.length Bs.length 1 i Bs.length 0 MA MB MC an by have := HMK.out; rwa [show k = Bs.length by omega] at this).down)
          clear HMK q0
          go_wp2_with fail
          go_roundw
          case rel => exact ⟨i + 1, MA, MB, MC, an, rfl, by go_num, by omega, HNX, HMB, HBR⟩
          case measure => simp [intOf]; omega
    · have e3 : i = A.length := by omega
      subst e3
      clear hlt
      cases an with
      | false =>
        go_wp2_with fail
        go_ret2
        exact ⟨⟨false, MA, MB, MC, HMK.out, ⟨none, 0, 0⟩, rfl, IsRows.nil _⟩, HBR.out⟩
      | true =>
        have C1 := Lib.hid (those_any ⟨aA, A.length, aC⟩ A ga A.length MA wr (HA.out.below HBR.out) HMB.out.1 HMK.out.la hA)
        go_wp2_with fail
        refine C1.out.mono ?_
        rintro e w1 ⟨⟨y1, rfl, r1⟩, b1⟩
        have R1 := Lib.hid (ints_own r1 (by have := thoseE_len A MA A.length; omega))
        have B1 := Lib.hid (HBR.out.trans (b1.mono HBR.out.size))
        have HM1 : Hid (MarkB w1 gb MB) := Lib.hid (HMB.out.2.below b1)
        obtain ⟨-, q1⟩ := HQ.out w1 B1.out
        have C2 := Lib.hid (those_any ⟨bA, Bs.length, bC⟩ Bs gb Bs.length MB w1 (HB.out.below B1.out) HM1.out HMK.out.lb hB)
        clear C1 r1 b1 HMB q0
        go_wp2_with fail
        refine C2.out.mono ?_
        rintro e w2 ⟨⟨y2, rfl, r2⟩, b2⟩
        have R2 := Lib.hid (ints_own r2 (by have := thoseE_len Bs MB Bs.length; omega))
        have HF := Lib.hid (rows_build2 (R1.out.below b2) R2.out)
        have B2 := Lib.hid (B1.out.trans (b2.mono B1.out.size))
        have BF := Lib.hid (B2.out.trans ((below1 w2 (.cells #[.slice y1.A y1.n y1.c, .slice y2.A y2.n y2.c] 30)).mono B2.out.size))
        clear C2 r2 b2 HM1 q1 R1 R2 B1 B2
        go_wp2_with fail
        go_ret2
        exact ⟨⟨true, MA, MB, MC, HMK.out, ⟨some ⟨w2.heap.size, 0, none⟩, 2, 2⟩, rfl, HF.out⟩, BF.out⟩
end Go.Proofs.YtkhmocbfkpbpfaaGreatDoor

/- Contract of the document's low (layer 12). -/
namespace Go.Proofs.YtkhmocbfkpbpfaaGreatDoor
open Go.RowKit Go.Sort

/-- What is left of great domains, of a minimum, as the document says. -/
def lowE (A B C : List Int) : Option (List (List Int)) :=
  if betweenE C (selV 9 (A.head?.getD 0) (B.head?.getD 0)) (selV 9 (A.getLast?.getD 0) (B.getLast?.getD 0)) = [] then none
  else if betweenE A ((betweenE C (selV 9 (A.head?.getD 0) (B.head?.getD 0)) (selV 9 (A.getLast?.getD 0) (B.getLast?.getD 0))).head?.getD 0) 2000000 = [] ∨ betweenE B ((betweenE C (selV 9 (A.head?.getD 0) (B.head?.getD 0)) (selV 9 (A.getLast?.getD 0) (B.getLast?.getD 0))).head?.getD 0) 2000000 = [] then none
  else some [betweenE A ((betweenE C (selV 9 (A.head?.getD 0) (B.head?.getD 0)) (selV 9 (A.getLast?.getD 0) (B.getLast?.getD 0))).head?.getD 0) 2000000, betweenE B ((betweenE C (selV 9 (A.head?.getD 0) (B.head?.getD 0)) (selV 9 (A.getLast?.getD 0) (B.getLast?.getD 0))).head?.getD 0) 2000000, betweenE C (selV 9 (A.head?.getD 0) (B.head?.getD 0)) (selV 9 (A.getLast?.getD 0) (B.getLast?.getD 0))]

theorem ints_first {W : World} {y : Sl} {L : List Int} (h : IsInts W y L) (h0 : 0 < L.length) : ∃ ad : Addr, y.A = some ad ∧ W.cell? ad = some (.int .i64 (L.head?.getD 0)) ∧ W.cell? (ad.add (L.length - 1)) = some (.int .i64 (L.getLast?.getD 0)) := by
  have hn : y.n = L.length := h.len
  obtain ⟨ad, eA, hbk, hcl⟩ := h.lies (by omega)
  refine ⟨ad, eA, ?_, ?_⟩
  · have := hcl 0 (by omega)
    rw [add_zero] at this
    rw [this]
    cases L with
    | nil => simp at h0
    | cons a l => rfl
  · rw [hcl (L.length - 1) (by omega)]
    show some (Value.int .i64 (L.getD (L.length - 1) 0)) = _
    rw [List.getLast?_eq_getElem?, List.getD_eq_getElem?_getD]

set_option maxHeartbeats 8000000 in
set_option maxRecDepth 100000 in
theorem low_any (x : Sl) (A Bs C : List Int) (w : World) (h : IsRows w x [A, Bs, C]) (lA : A.length ≤ 200000) (lB : Bs.length ≤ 200000) (lC : C.length ≤ 200000) (ha : A ≠ []) (hb : Bs ≠ []) :
    Calls Tryz.prog 61 #[.slice x.A x.n x.c] w fun e w' => (∃ y : Sl, e = .returned (.tuple #[.slice y.A y.n y.c, .bool (lowE A Bs C).isSome]) ∧ IsRows w' y ((lowE A Bs C).getD [])) ∧ Below w.heap.size w w' := by
  obtain ⟨xA, xn, xc⟩ := x
  have hxn : xn = 3 := h.len
  subst hxn
  obtain ⟨ad, uA, e0, c0, hA0⟩ := rows_at h 0 (show 0 < 3 by omega)
  obtain ⟨ad1, uB, e1, c1, hB0⟩ := rows_at h 1 (show 1 < 3 by omega)
  obtain ⟨ad2, uC, e2, c2, hC0⟩ := rows_at h 2 (show 2 < 3 by omega)
  simp only at e0 e1 e2
  subst e0
  obtain rfl : ad = ad1 := Option.some.inj e1
  obtain rfl : ad = ad2 := Option.some.inj e2
  obtain ⟨ab, ao, af⟩ := ad
  obtain ⟨aA, aN, aC⟩ := uA
  obtain ⟨bA, bN, bC⟩ := uB
  obtain ⟨cA, cN, cC⟩ := uC
  have hA1 : IsInts w ⟨aA, aN, aC⟩ A := hA0
  have hB1 : IsInts w ⟨bA, bN, bC⟩ Bs := hB0
  have hC1 : IsInts w ⟨cA, cN, cC⟩ C := hC0
  obtain rfl : aN = A.length := hA1.len
  obtain rfl : bN = Bs.length := hB1.len
  obtain rfl : cN = C.length := hC1.len
  have hAp : 0 < A.length := List.length_pos_iff.2 ha
  have hBp : 0 < Bs.length := List.length_pos_iff.2 hb
  obtain ⟨pa, ea, va0, va1⟩ := ints_first hA1 hAp
  obtain ⟨pb, eb, vb0, vb1⟩ := ints_first hB1 hBp
  simp only at ea eb
  subst ea
  subst eb
  have c0 : w.cell? ⟨ab, ao, af⟩ = some (.slice (some pa) A.length aC) := by rw [add_zero] at c0; exact c0
  have c1 : w.cell? ⟨ab, ao + 1, none⟩ = some (.slice (some pb) Bs.length bC) := by simpa [Addr.add] using c1
  have c2 : w.cell? ⟨ab, ao + 2, none⟩ = some (.slice cA C.length cC) := by simpa [Addr.add] using c2
  have HAI := Lib.hid hA1
  have HBI := Lib.hid hB1
  have HCI := Lib.hid hC1
  have HC2 := Lib.hid c2
  have w1 : IntKind.i64.wrap (((A.length : Nat) : Int) - 1) = ((A.length - 1 : Nat) : Int) := by rw [show ((A.length : Nat) : Int) - 1 = ((A.length - 1 : Nat) : Int) by omega]; exact IntWalk.i64_in _ (by omega)
  have w2 : IntKind.i64.wrap (((Bs.length : Nat) : Int) - 1) = ((Bs.length - 1 : Nat) : Int) := by rw [show ((Bs.length : Nat) : Int) - 1 = ((Bs.length - 1 : Nat) : Int) by omega]; exact IntWalk.i64_in _ (by omega)
  have hl1 : A.length - 1 < A.length := by omega
  have hl2 : Bs.length - 1 < Bs.length := by omega
  obtain ⟨R, hR⟩ : ∃ R, R = lowE A Bs C := ⟨_, rfl⟩
  rw [← hR]
  unfold lowE at hR
  obtain ⟨lo, hlo⟩ : ∃ v, v = selV 9 (A.head?.getD 0) (Bs.head?.getD 0) := ⟨_, rfl⟩
  obtain ⟨hi, hhi⟩ : ∃ v, v = selV 9 (A.getLast?.getD 0) (Bs.getLast?.getD 0) := ⟨_, rfl⟩
  rw [← hlo, ← hhi] at hR
  have CS1 := Lib.hid (gin_regrown (w := w) (fun W _ => rless_any (A.head?.getD 0) (Bs.head?.getD 0) W))
  have CS2 := Lib.hid (fun w0 => gin_regrown (w := w0) (fun W _ => rless_any (A.getLast?.getD 0) (Bs.getLast?.getD 0) W))
  rw [← hlo] at CS1
  rw [← hhi] at CS2
  generalize A.head?.getD 0 = a0 at *
  generalize A.getLast?.getD 0 = a1 at *
  generalize Bs.head?.getD 0 = b0 at *
  generalize Bs.getLast?.getD 0 = b1 at *
  have HV := Lib.hid hR
  have CBC := Lib.hid (fun W (hW : Below w.heap.size w W) => between_of ⟨cA, C.length, cC⟩ C lo hi W (HCI.out.below hW) lC)
  have CBA := Lib.hid (fun z W (hW : Below w.heap.size w W) => between_of ⟨some pa, A.length, aC⟩ A z 2000000 W (HAI.out.below hW) lA)
  have CBB := Lib.hid (fun z W (hW : Below w.heap.size w W) => between_of ⟨some pb, Bs.length, bC⟩ Bs z 2000000 W (HBI.out.below hW) lB)
  have HLA : Hid (∀ lo hi, (betweenE A lo hi).length ≤ 200000) := Lib.hid (fun _ _ => Nat.le_trans (List.length_filter_le _ _) lA)
  have HLB : Hid (∀ lo hi, (betweenE Bs lo hi).length ≤ 200000) := Lib.hid (fun _ _ => Nat.le_trans (List.length_filter_le _ _) lB)
  have HLC : Hid ((betweenE C lo hi).length ≤ 200000) := Lib.hid (Nat.le_trans (List.length_filter_le _ _) lC)
  obtain ⟨na, hna⟩ : ∃ n, n = A.length - 1 := ⟨_, rfl⟩
  obtain ⟨nb, hnb⟩ : ∃ n, n = Bs.length - 1 := ⟨_, rfl⟩
  rw [← hna] at w1 va1 hl1
  rw [← hnb] at w2 vb1 hl2
  obtain ⟨T, hT⟩ : ∃ T, T = betweenE C lo hi := ⟨_, rfl⟩
  rw [← hT] at HV CBC HLC
  have q0 := cell_regrown va0
  have q1 := cell_regrown vb0
  have HVA := Lib.hid (And.intro va1 vb1)
  have HQ := Lib.hid (And.intro c0 c1)
  clear hA0 hB0 hC0 hA1 hB1 hC1 h e1 e2 lA lB lC ha hb hR hlo hhi c2 hna hnb hT HAI HBI HCI hAp hBp
  go_enter Tryz.func61, Tryz.ntmps61
  go_upto_region 3 with fail
  clear c0 c1 va1 vb1 va0 vb0
  generalize hla : A.length = la at *
  generalize hlb : Bs.length = lb at *
  refine wp_region_quiet_below (by kernel_rfl) (by kernel_rfl) ?_
  repeat (first | go_big_quiet_step (first | (go_at_call 126; with_reducible exact CS1.out _ _)) | quiet_step (fail))
  refine wpQuiet_nil ?_
  intro _ hw'
  obtain ⟨⟨dq, osq⟩, hw''⟩ := hw'
  subst hw''
  have b5 := below_regrown w dq osq
  generalize grow (redrawn w dq) osq = w5 at *
  have B5 := Lib.hid b5
  have r0 := cell_regrown ((b5.cell (World.block_lt_of_cell? _ _ HVA.out.1)).trans HVA.out.1)
  have r1 := cell_regrown ((b5.cell (World.block_lt_of_cell? _ _ HVA.out.2)).trans HVA.out.2)
  have CS5 := Lib.hid (CS2.out w5)
  clear q0 q1 CS1 b5 CS2 HVA
  go_upto_region 4 with fail
  refine wp_region_quiet_below (by kernel_rfl) (by kernel_rfl) ?_
  repeat (first | go_big_quiet_step (first | (go_at_call 126; with_reducible exact CS5.out _ _)) | quiet_step (fail))
  refine wpQuiet_nil ?_
  intro _ hw'
  obtain ⟨⟨dq, osq⟩, hw''⟩ := hw'
  subst hw''
  have b6 := below_regrown w5 dq osq
  generalize grow (redrawn w5 dq) osq = w6 at *
  have B6 := Lib.hid (B5.out.trans (b6.mono B5.out.size))
  have k2 := (B6.out.cell (World.block_lt_of_cell? _ _ HC2.out)).trans HC2.out
  have CC := Lib.hid (CBC.out w6 B6.out)
  clear r0 r1 CS5 b6 B5 w1 w2 hl1 hl2 CBC HC2
  go_wp2_with fail
  refine CC.out.mono ?_
  rintro e w7 ⟨⟨y7, rfl, h7⟩, b7⟩
  have B7 := Lib.hid (B6.out.trans (b7.mono B6.out.size))
  have hY7 : IsInts w7 y7 T := ints_own h7 (by have := HLC.out; omega)
  have hy7 : y7.n = T.length := hY7.len
  have HY7 := Lib.hid hY7
  rw [hy7]
  clear hY7 h7 b7 CC k2 B6
  by_cases g : T.length = 0
  · have HF : Hid (R = none) := Lib.hid (by rw [HV.out, if_pos (List.eq_nil_of_length_eq_zero g)])
    rw [g]
    clear HV g HY7 hy7
    go_wp2_with fail
    go_ret2
    rw [HF.out]
    exact ⟨⟨⟨none, 0, 0⟩, rfl, IsRows.nil _⟩, B7.out⟩
  · have z1 : (((T.length : Nat) : Int) == 0) = false := by rw [beq_eq_false_iff_ne]; omega
    have HTL : Hid (0 < T.length) := Lib.hid (by omega)
    obtain ⟨p7, e7, v70, -⟩ := ints_first HY7.out HTL.out
    obtain ⟨A7, n7, k7⟩ := y7
    simp only at e7 hy7
    subst e7
    subst hy7
    have HY7' : Hid (IsInts w7 ⟨some p7, T.length, k7⟩ T) := HY7
    have HP7 := Lib.hid v70
    have HV2 : Hid (R = if betweenE A (T.head?.getD 0) 2000000 = [] ∨ betweenE Bs (T.head?.getD 0) 2000000 = [] then none else some [betweenE A (T.head?.getD 0) 2000000, betweenE Bs (T.head?.getD 0) 2000000, T]) := Lib.hid (by rw [HV.out, if_neg (fun q => g (by rw [q]; rfl))])
    generalize T.head?.getD 0 = z at *
    have hLX := HLA.out z 2000000
    have hLY := HLB.out z 2000000
    have CA := Lib.hid (CBA.out z w7 B7.out)
    have CB := Lib.hid (fun W (hW : Below w.heap.size w W) => CBB.out z W hW)
    obtain ⟨X, hX⟩ : ∃ X, X = betweenE A z 2000000 := ⟨_, rfl⟩
    obtain ⟨Y, hY⟩ : ∃ Y, Y = betweenE Bs z 2000000 := ⟨_, rfl⟩
    rw [← hX] at hLX CA HV2
    rw [← hY] at hLY CB HV2
    obtain ⟨tn, htn⟩ : ∃ n, n = T.length := ⟨_, rfl⟩
    rw [← htn] at z1 HTL HY7' ⊢
    have htp : 0 < tn := HTL.out
    clear HV g HLA HLB CBA CBB hX hY HY7 htn hla hlb
    go_wp2_with fail
    refine CA.out.mono ?_
    rintro e w8 ⟨⟨y8, rfl, h8⟩, b8⟩
    have B8 := Lib.hid (B7.out.trans (b8.mono B7.out.size))
    have hY8 : IsInts w8 y8 X := ints_own h8 (by omega)
    have hy8 : y8.n = X.length := hY8.len
    have HY8 := Lib.hid hY8
    have HT8 := Lib.hid (HY7'.out.below b8)
    have v80 := (b8.cell (World.block_lt_of_cell? _ _ HP7.out)).trans HP7.out
    have CB8 := Lib.hid (CB.out w8 B8.out)
    rw [hy8]
    clear hY8 h8 b8 CA CB v70 HP7 HY7' B7
    go_wp2_with fail
    refine CB8.out.mono ?_
    rintro e w9 ⟨⟨y9, rfl, h9⟩, b9⟩
    have B9 := Lib.hid (B8.out.trans (b9.mono B8.out.size))
    have hY9 : IsInts w9 y9 Y := ints_own h9 (by omega)
    have hy9 : y9.n = Y.length := hY9.len
    have HY9 := Lib.hid hY9
    have HX9 := Lib.hid (HY8.out.below b9)
    have HT9 := Lib.hid (HT8.out.below b9)
    rw [hy9]
    clear hY9 h9 b9 CB8 v80 HT8 HY8 B8
    by_cases gx : X.length = 0
    · have HF : Hid (R = none) := Lib.hid (by rw [HV2.out, if_pos (.inl (List.eq_nil_of_length_eq_zero gx))])
      rw [gx]
      clear HV2 gx HX9 HY9 hy8 hy9 HT9
      go_wp2_with fail
      go_ret2
      rw [HF.out]
      exact ⟨⟨⟨none, 0, 0⟩, rfl, IsRows.nil _⟩, B9.out⟩
    · have zx : (((X.length : Nat) : Int) == 0) = false := by rw [beq_eq_false_iff_ne]; omega
      by_cases gy : Y.length = 0
      · have HF : Hid (R = none) := Lib.hid (by rw [HV2.out, if_pos (.inr (List.eq_nil_of_length_eq_zero gy))])
        rw [gy]
        clear HV2 gx gy HX9 HY9 hy8 hy9 HT9
        go_wp2_with fail
        go_ret2
        rw [HF.out]
        exact ⟨⟨⟨none, 0, 0⟩, rfl, IsRows.nil _⟩, B9.out⟩
      · have zy : (((Y.length : Nat) : Int) == 0) = false := by rw [beq_eq_false_iff_ne]; omega
        have HF : Hid (R = some [X, Y, T]) := Lib.hid (by
          rw [HV2.out, if_neg]
          rintro (q | q)
          · exact gx (by rw [q]; rfl)
          · exact gy (by rw [q]; rfl))
        have HR9 := Lib.hid (rows_build3 (y1 := y8) (y2 := y9) (y3 := ⟨some p7, tn, k7⟩) HX9.out HY9.out HT9.out)
        have BF := Lib.hid (B9.out.trans ((below1 w9 (.cells #[.slice y8.A y8.n y8.c, .slice y9.A y9.n y9.c, .slice (some p7) tn k7] 30)).mono B9.out.size))
        rw [hy8, hy9] at HR9 BF
        clear HV2 gx gy HX9 HY9 hy8 hy9 HT9
        go_wp2_with fail
        go_ret2
        rw [HF.out]
        exact ⟨⟨⟨some ⟨w9.heap.size, 0, none⟩, 3, 3⟩, rfl, HR9.out⟩, BF.out⟩
end Go.Proofs.YtkhmocbfkpbpfaaGreatDoor
