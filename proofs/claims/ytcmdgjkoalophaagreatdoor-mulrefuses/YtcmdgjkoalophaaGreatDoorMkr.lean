/- Contract of mul's solved: the values that are in a solution, domain by domain. -/
import Derived.Test.YtcmdgjkoalophaaGreatDoorMul2
import Derived.Test.YtcmdgjkoalophaaGreatDoorSep
import Derived.Test.YtcmdgjkoalophaaGreatDoorMkmore
import Derived.Test.YtcmdgjkoalophaaGreatDoorMrefright
namespace Go.Proofs.YtcmdgjkoalophaaGreatDoor
open Go.RowKit Go.Sort

theorem IsDom.lim {W : World} {d : Value} {L : List Int} (h : IsDom W d L) : ∀ v ∈ L, -2000000 ≤ v ∧ v ≤ 2000000 := by
  obtain ⟨s, A, ws, c, -, -, hF, rfl⟩ := h
  intro v hv
  have := D.in_places hF v hv
  omega
/-- Three domains made into a slice. -/
theorem doms_build3 {W : World} {d1 d2 d3 : Dv} {L1 L2 L3 : List Int} (h1 : IsDom W d1.val L1) (h2 : IsDom W d2.val L2) (h3 : IsDom W d3.val L3) :
    DomsIn (W.alloc (.cells (d1.cells ++ d2.cells ++ d3.cells).toArray 77)) ⟨some ⟨W.heap.size, 0, none⟩, 3, 3⟩ [L1, L2, L3] := by
  have b := below1 W (.cells (d1.cells ++ d2.cells ++ d3.cells).toArray 77)
  have hn := heap_alloc_new W (.cells (d1.cells ++ d2.cells ++ d3.cells).toArray 77)
  refine ⟨rfl, by simp, Nat.le_refl _, fun _ => ⟨W.heap.size, 0, rfl, (Array.getElem?_eq_some_iff.1 hn).1, fun i hi => ?_⟩⟩
  have key : ∀ (d : Dv) (k : Nat), (∀ (j : Nat) (u : Value), d.cells[j]? = some u → (d1.cells ++ d2.cells ++ d3.cells)[k * 3 + j]? = some u) → ∀ (j : Nat) (u : Value), d.cells[j]? = some u → (W.alloc (.cells (d1.cells ++ d2.cells ++ d3.cells).toArray 77)).cell? ⟨W.heap.size, 0 + k * 3 + j, none⟩ = some u := by
    intro d k hk j u hj
    refine blk_cell hn ?_
    rw [Nat.zero_add, List.getElem?_toArray]
    exact hk j u hj
  have hlt3 : ∀ (d : Dv) (j : Nat) (u : Value), d.cells[j]? = some u → j < 3 := fun d j u hj => by
    have := (List.getElem?_eq_some_iff.1 hj).1
    simpa [Dv.cells] using this
  match i, hi with
  | 0, _ => exact ⟨d1, key d1 0 (fun j u hj => by have := hlt3 _ _ _ hj; match j, hj with | 0, hj => exact hj | 1, hj => exact hj | 2, hj => exact hj), h1.below b⟩
  | 1, _ => exact ⟨d2, key d2 1 (fun j u hj => by have := hlt3 _ _ _ hj; match j, hj with | 0, hj => exact hj | 1, hj => exact hj | 2, hj => exact hj), h2.below b⟩
  | 2, _ => exact ⟨d3, key d3 2 (fun j u hj => by have := hlt3 _ _ _ hj; match j, hj with | 0, hj => exact hj | 1, hj => exact hj | 2, hj => exact hj), h3.below b⟩

set_option maxHeartbeats 4000000 in
set_option maxRecDepth 100000 in
theorem solved_any (g : Nat) (eg : ∀ args w, (callFunc g args).run Tryz.prog w = .ok (.enter g args) w) (f : Int → Int → Option Int) (x : Sl) (A Bs C : List Int) (w : World) (h : DomsIn w x [A, Bs, C]) (hT : TabZ w) (hlen : A.length * Bs.length ≤ 4096) (hA : A.length ≤ 4096) (hB : Bs.length ≤ 4096)
    (hf : ∀ a b W, -2000000 ≤ a ∧ a ≤ 2000000 → -2000000 ≤ b ∧ b ≤ 2000000 → Calls Tryz.prog g #[.int .i64 a, .int .i64 b] W fun e w' => e = .returned (optI (f a b)) ∧ W = w')
    (hr : ∀ a b r, -2000000 ≤ a ∧ a ≤ 2000000 → -2000000 ≤ b ∧ b ≤ 2000000 → f a b = some r → -1000000000000000 ≤ r ∧ r ≤ 1000000000000000) :
    Calls Tryz.prog 147 #[.func (.func g) #[] #[], .slice x.A x.n x.c] w fun e w' => (∃ y : Sl, e = .returned (.slice y.A y.n y.c) ∧ DomsIn w' y [ofL (h1 (hitsE f C A Bs)), ofL (h2 (hitsE f C A Bs)), ofL (h3 (hitsE f C A Bs))]) ∧ Below w.heap.size w w' := by
  have HD := Lib.hid h
  have HT := Lib.hid hT
  have HF := Lib.hid hf
  have HR := Lib.hid hr
  have hxn : x.n = 3 := h.len
  obtain ⟨gb, o, d0, ex, p0, p1, p2, hD0⟩ := h.at_ 0 (by omega)
  obtain ⟨gb', o', d1, ex', q0, q1, q2, hD1⟩ := h.at_ 1 (by omega)
  have eg1 : gb' = gb ∧ o' = o := by rw [ex] at ex'; injection ex' with ex'; injection ex' with e1 e2 _; exact ⟨e1.symm, e2.symm⟩
  obtain ⟨rfl, rfl⟩ := eg1
  have hD0' : IsDom w d0.val A := hD0
  have hD1' : IsDom w d1.val Bs := hD1
  have HDA := Lib.hid hD0'
  have CL1 := Lib.hid (list_dom d1.val Bs w hD1' hT)
  have HLA := Lib.hid hD0'.lim
  have HLB := Lib.hid hD1'.lim
  obtain ⟨O1, hO1⟩ : ∃ O, O = ofL (h1 (hitsE f C A Bs)) := ⟨_, rfl⟩
  obtain ⟨O2, hO2⟩ : ∃ O, O = ofL (h2 (hitsE f C A Bs)) := ⟨_, rfl⟩
  obtain ⟨O3, hO3⟩ : ∃ O, O = ofL (h3 (hitsE f C A Bs)) := ⟨_, rfl⟩
  rw [← hO1, ← hO2, ← hO3]
  have HO1 := Lib.hid hO1
  have HO2 := Lib.hid hO2
  have HO3 := Lib.hid hO3
  clear hD0 hD1 hD0' hD1' h hT hf hr ex' hO1 hO2 hO3
  rw [ex]
  rw [Nat.zero_mul, Nat.add_zero] at p0 p1 p2
  rw [Nat.one_mul] at q0 q1 q2
  go_enter Tryz.func147, Tryz.ntmps147
  go_wp2_with fail
  refine CL1.out.mono ?_
  rintro e w1 ⟨v1, rfl, hB1, b1⟩
  obtain ⟨YB, kB, rfl⟩ := slice_row hB1
  have S1 : SepL w.heap.size w1 [(⟨YB, Bs.length, kB⟩, Bs)] := (SepL.nil _ w (Nat.le_refl _)).cons b1 hB1 (fun g hg => (own_lt' hB1 hg).1)
  have HS1 := Lib.hid S1
  have B1 := Lib.hid b1
  have CL0 := Lib.hid (list_dom d0.val A w1 (HDA.out.below b1) (HT.out.below b1))
  have p0 := (b1.cell (p := ⟨gb', o', none⟩) (World.block_lt_of_cell? _ _ p0)).trans p0
  have p1 := (b1.cell (p := ⟨gb', o' + 1, none⟩) (World.block_lt_of_cell? _ _ p1)).trans p1
  have p2 := (b1.cell (p := ⟨gb', o' + 2, none⟩) (World.block_lt_of_cell? _ _ p2)).trans p2
  clear CL1 S1 hB1 b1 q0 q1 q2
  go_wp2_with fail
  refine CL0.out.mono ?_
  rintro e w2 ⟨v2, rfl, hA2, b2⟩
  obtain ⟨YA, kA, rfl⟩ := slice_row hA2
  have S2 : SepL w.heap.size w2 [(⟨YA, A.length, kA⟩, A), (⟨YB, Bs.length, kB⟩, Bs)] := HS1.out.cons b2 (own_base hA2 HS1.out.lo) (fun g hg => (own_lt' hA2 hg).1)
  have S5 : SepL w.heap.size w2 [(⟨none, 0, 0⟩, []), (⟨none, 0, 0⟩, []), (⟨none, 0, 0⟩, []), (⟨YA, A.length, kA⟩, A), (⟨YB, Bs.length, kB⟩, Bs)] :=
    ((S2.cons (Below.refl _ _) (Row3.nil _ _) (by intro g hg; cases hg)).cons (Below.refl _ _) (Row3.nil _ _) (by intro g hg; cases hg)).cons (Below.refl _ _) (Row3.nil _ _) (by intro g hg; cases hg)
  have HS5 := Lib.hid S5
  have B2 := Lib.hid (B1.out.trans (b2.mono B1.out.size))
  clear CL0 S2 S5 hA2 b2 p0 p1 p2 HS1 B1 HDA
  go_wp2_with fail
  go_loopw [5, 6, 7, 24] (fun a b c i wr => ∃ (k : Nat) (y1 y2 y3 : Sl), a = .slice y1.A y1.n y1.c ∧ b = .slice y2.A y2.n y2.c ∧ c = .slice y3.A y3.n y3.c ∧ i = .int .i64 (k : Nat) ∧ k ≤ A.length ∧
      Hid (SepL w.heap.size wr [(y1, h1 (hitsE f C (A.take k) Bs)), (y2, h2 (hitsE f C (A.take k) Bs)), (y3, h3 (hitsE f C (A.take k) Bs)), (⟨YA, A.length, kA⟩, A), (⟨YB, Bs.length, kB⟩, Bs)]) ∧ Hid (Below w.heap.size w wr)) (fun _ _ _ i _ => A.length - (intOf i).toNat)
  case atStart => exact ⟨0, ⟨none, 0, 0⟩, ⟨none, 0, 0⟩, ⟨none, 0, 0⟩, rfl, rfl, rfl, rfl, by omega, HS5, B2⟩
  case round =>
    clear HS5 B2
    obtain ⟨k, y1, y2, y3, rfl, rfl, rfl, rfl, hk, HS, HB⟩ := hrel
    by_cases hlt : k < A.length
    · obtain ⟨adA, eA, -, -, cA⟩ := row_cell (HS.out.row (k := 3) rfl) (k := k) hlt
      simp only at eA
      subst eA
      have hav := HLA.out _ (getD_mem A k hlt)
      have HST := Lib.hid (hitsE_step f C A Bs k hlt)
      have HLN : Hid ((hitsE f C (A.take k) Bs).length ≤ 4096) := Lib.hid (by
        have h1 := hitsE_len f C (A.take k) Bs
        have h2 : (A.take k).length * Bs.length ≤ A.length * Bs.length := Nat.mul_le_mul_right _ (by rw [List.length_take]; omega)
        omega)
      obtain ⟨av, hav'⟩ : ∃ av, av = A.getD k 0 := ⟨_, rfl⟩
      rw [← hav'] at cA hav HST
      generalize hitsE f C (A.take k) Bs = X at HS HST HLN
      have HAV := Lib.hid hav
      clear hav' hav
      obtain ⟨wo, rfl⟩ : ∃ wo, wo = wr := ⟨_, rfl⟩
      go_wp2_with fail
      go_loopw [5, 6, 7, 30] (fun a b c j wr => ∃ (j' : Nat) (y1 y2 y3 : Sl), a = .slice y1.A y1.n y1.c ∧ b = .slice y2.A y2.n y2.c ∧ c = .slice y3.A y3.n y3.c ∧ j = .int .i64 (j' : Nat) ∧ j' ≤ Bs.length ∧
          Hid (SepL w.heap.size wr [(y1, h1 (X ++ hitsR f C av (Bs.take j'))), (y2, h2 (X ++ hitsR f C av (Bs.take j'))), (y3, h3 (X ++ hitsR f C av (Bs.take j'))), (⟨some adA, A.length, kA⟩, A), (⟨YB, Bs.length, kB⟩, Bs)]) ∧ Hid (Below w.heap.size w wr)) (fun _ _ _ j _ => Bs.length - (intOf j).toNat)
      case atStart => exact ⟨0, y1, y2, y3, rfl, rfl, rfl, rfl, by omega, Lib.hid (by have := HS.out; simpa [hitsR] using this), HB⟩
      case round =>
        clear HS HB
        obtain ⟨j, y1, y2, y3, rfl, rfl, rfl, rfl, hj, HS, HB⟩ := hrel
        by_cases hlj : j < Bs.length
        · obtain ⟨adB, eB, -, -, cB⟩ := row_cell (HS.out.row (k := 4) rfl) (k := j) hlj
          simp only at eB
          subst eB
          have hbv := HLB.out _ (getD_mem Bs j hlj)
          have hSTb := hitsR_step f C av Bs j hlj
          have HLR : Hid ((hitsR f C av (Bs.take j)).length ≤ 4096) := Lib.hid (by
            have h1 := hitsR_len f C av (Bs.take j)
            rw [List.length_take] at h1
            omega)
          obtain ⟨bv, hbv'⟩ : ∃ bv, bv = Bs.getD j 0 := ⟨_, rfl⟩
          rw [← hbv'] at cB hbv hSTb
          have CF := Lib.hid (HF.out av bv wr HAV.out hbv)
          have hrr := fun r => HR.out av bv r HAV.out hbv
          have HITN : Hid (f av bv = none → hitsR f C av (Bs.take (j + 1)) = hitsR f C av (Bs.take j)) := Lib.hid (fun e => by rw [hSTb]; simp [hitP, e])
          have HITM : Hid (∀ r, f av bv = some r → r ∉ C → hitsR f C av (Bs.take (j + 1)) = hitsR f C av (Bs.take j)) := Lib.hid (fun r e hr => by rw [hSTb]; simp [hitP, e, hr])
          have HITY : Hid (∀ r, f av bv = some r → r ∈ C → hitsR f C av (Bs.take (j + 1)) = hitsR f C av (Bs.take j) ++ [(av, bv, r)]) := Lib.hid (fun r e hr => by rw [hSTb]; simp [hitP, e, hr])
          generalize hitsR f C av (Bs.take j) = Y at HS HITN HITM HITY HLR
          have HBV := Lib.hid hbv
          clear hSTb hbv' hbv
          cases hfv : f av bv with
          | none =>
            rw [hfv] at CF
            change Hid (Calls Tryz.prog g #[.int .i64 av, .int .i64 bv] wr fun e w' => e = .returned (.tuple #[.int .i64 0, .bool false]) ∧ wr = w') at CF
            have HY := Lib.hid (HITN.out hfv)
            clear HITN HITM HITY hrr hfv
            go_wp2_with fail
            refine CF.out.mono ?_
            rintro e w3 ⟨rfl, rfl⟩
            clear CF
            go_wp2_with fail
            go_roundw
            case rel => exact ⟨j + 1, y1, y2, y3, rfl, rfl, rfl, by go_num, by omega, Lib.hid (by rw [HY.out]; exact HS.out), HB⟩
            case measure => simp [intOf]; omega
          | some r =>
            rw [hfv] at CF
            change Hid (Calls Tryz.prog g #[.int .i64 av, .int .i64 bv] wr fun e w' => e = .returned (.tuple #[.int .i64 r, .bool true]) ∧ wr = w') at CF
            have hrl := hrr r hfv
            obtain ⟨g2, o2, d2, e2, r0, r1, r2, hD2⟩ := (HD.out.below HB.out).at_ 2 (by omega)
            have eg2 : g2 = gb' ∧ o2 = o' := by rw [ex] at e2; injection e2 with e2; injection e2 with e3 e4 _; exact ⟨e3.symm, e4.symm⟩
            obtain ⟨rfl, rfl⟩ := eg2
            have hD2' : IsDom wr d2.val C := hD2
            have r0' : wr.cell? ⟨g2, o2 + 6, none⟩ = some (.int .i64 d2.s) := r0
            have r1' : wr.cell? ⟨g2, o2 + 6 + 1, none⟩ = some (.slice d2.A d2.n d2.c) := r1
            have r2' : wr.cell? ⟨g2, o2 + 6 + 2, none⟩ = some (.int .i64 d2.z) := r2
            have CH := Lib.hid (D.has_dom d2.val C r wr hD2' (by omega) (by omega))
            clear hrr hrl e2 r0 r1 r2 hD2 hD2'
            by_cases hm : r ∈ C
            · rw [decide_eq_true hm] at CH
              have HY := Lib.hid (HITY.out r hfv hm)
              clear HITN HITM HITY hfv hm
              go_wp2_with fail
              refine CF.out.mono ?_
              rintro e w3 ⟨rfl, rfl⟩
              clear CF
              go_wp2_with fail
              refine CH.out.mono ?_
              rintro e w3 ⟨rfl, b3⟩
              have HS3 := Lib.hid (HS.out.below b3)
              have HB3 := Lib.hid (HB.out.trans (b3.mono HB.out.size))
              have N1 : Hid ((h1 (X ++ Y)).length < 1000000) := Lib.hid (by have := HLN.out; have := HLR.out; simp [h1]; omega)
              have N2 : Hid ((h2 (X ++ Y)).length < 1000000) := Lib.hid (by have := HLN.out; have := HLR.out; simp [h2]; omega)
              have N3 : Hid ((h3 (X ++ Y)).length < 1000000) := Lib.hid (by have := HLN.out; have := HLR.out; simp [h3]; omega)
              have LO := Lib.hid (HB.out.size)
              clear CH b3 HS HB r0' r1' r2'
              go_wp2_with (first
                | (at_builtin; refine wpList_append_sep rfl _ _ 26 rfl Tryz.underlying26 Tryz.info3 HS3.out 0 y1 _ av rfl rfl rfl N1.out ?_; intro y1' w4 S4 b4; have HS4 := Lib.hid S4; have HB4 := Lib.hid (HB3.out.trans b4); clear S4 b4)
                | (at_builtin; refine wpList_append_sep rfl _ _ 26 rfl Tryz.underlying26 Tryz.info3 HS4.out 1 y2 _ bv rfl rfl rfl N2.out ?_; intro y2' w5 S5 b5; have HS5 := Lib.hid S5; have HB5 := Lib.hid (HB4.out.trans b5); clear S5 b5)
                | (at_builtin; refine wpList_append_sep rfl _ _ 26 rfl Tryz.underlying26 Tryz.info3 HS5.out 2 y3 _ r rfl rfl rfl N3.out ?_; intro y3' w6 S6 b6; have HS6 := Lib.hid S6; have HB6 := Lib.hid (HB5.out.trans b6); clear S6 b6))
              go_roundw
              case rel => exact ⟨j + 1, y1', y2', y3', rfl, rfl, rfl, by go_num, by omega, Lib.hid (by
                rw [HY.out, ← List.append_assoc, h1_app (X ++ Y), h2_app (X ++ Y), h3_app (X ++ Y)]
                exact HS6.out), HB6⟩
              case measure => simp [intOf]; omega
            · rw [decide_eq_false hm] at CH
              have HY := Lib.hid (HITM.out r hfv hm)
              clear HITN HITM HITY hfv hm
              go_wp2_with fail
              refine CF.out.mono ?_
              rintro e w3 ⟨rfl, rfl⟩
              clear CF
              go_wp2_with fail
              refine CH.out.mono ?_
              rintro e w3 ⟨rfl, b3⟩
              have HS3 := Lib.hid (HS.out.below b3)
              have HB3 := Lib.hid (HB.out.trans (b3.mono HB.out.size))
              clear CH b3 HS HB r0' r1' r2'
              go_wp2_with fail
              go_roundw
              case rel => exact ⟨j + 1, y1, y2, y3, rfl, rfl, rfl, by go_num, by omega, Lib.hid (by rw [HY.out]; exact HS3.out), HB3⟩
              case measure => simp [intOf]; omega
        · have HS7 : Hid (SepL w.heap.size wr [(y1, h1 (X ++ hitsR f C av Bs)), (y2, h2 (X ++ hitsR f C av Bs)), (y3, h3 (X ++ hitsR f C av Bs)), (⟨some adA, A.length, kA⟩, A), (⟨YB, Bs.length, kB⟩, Bs)]) := Lib.hid (by
            have := HS.out
            rwa [List.take_of_length_le (show Bs.length ≤ j by omega)] at this)
          clear HS
          go_wp2_with fail
          go_roundw
          case rel => exact ⟨k + 1, y1, y2, y3, rfl, rfl, rfl, by go_num, by omega, Lib.hid (by rw [HST.out]; exact HS7.out), HB⟩
          case measure => simp [intOf]; omega
    · have HS7 : Hid (SepL w.heap.size wr [(y1, h1 (hitsE f C A Bs)), (y2, h2 (hitsE f C A Bs)), (y3, h3 (hitsE f C A Bs)), (⟨YA, A.length, kA⟩, A), (⟨YB, Bs.length, kB⟩, Bs)]) := Lib.hid (by
        have := HS.out
        rwa [List.take_of_length_le (show A.length ≤ k by omega)] at this)
      have hE : (hitsE f C A Bs).length ≤ 4096 := Nat.le_trans (hitsE_len f C A Bs) hlen
      obtain ⟨X, hX⟩ : ∃ X, X = hitsE f C A Bs := ⟨_, rfl⟩
      rw [← hX] at HS7 hE HO1 HO2 HO3
      have R1 := HS7.out.row (k := 0) rfl
      have R2 := HS7.out.row (k := 1) rfl
      have R3 := HS7.out.row (k := 2) rfl
      have L1 : (h1 X).length = X.length := by simp [h1]
      have L2 : (h2 X).length = X.length := by simp [h2]
      have L3 : (h3 X).length = X.length := by simp [h3]
      have I1 := Lib.hid (ints_own R1 (by omega))
      have I2 := Lib.hid (ints_own R2 (by omega))
      have I3 := Lib.hid (ints_own R3 (by omega))
      have C1 := Lib.hid (mulOf_any y1 (h1 X) wr I1.out.len (by have := I1.out.lies; rwa [I1.out.len] at this) (by omega))
      have C2 := Lib.hid (fun W (hW : Below wr.heap.size wr W) => mulOf_any y2 (h2 X) W I2.out.len (by have := (I2.out.below hW).lies; rwa [I2.out.len] at this) (by omega))
      have C3 := Lib.hid (fun W (hW : Below wr.heap.size wr W) => mulOf_any y3 (h3 X) W I3.out.len (by have := (I3.out.below hW).lies; rwa [I3.out.len] at this) (by omega))
      rw [← HO1.out] at C1
      rw [← HO2.out] at C2
      rw [← HO3.out] at C3
      clear hX HO1 HO2 HO3 HS7 R1 R2 R3 L1 L2 L3 I1 I2 I3 HS hE
      go_wp2_with fail
      refine C1.out.mono ?_
      rintro e w3 ⟨⟨v1, rfl, k1⟩, b3⟩
      have K1 := Lib.hid k1
      have B3 := Lib.hid b3
      clear k1 b3 C1
      go_wp2_with fail
      refine (C2.out w3 B3.out).mono ?_
      rintro e w4 ⟨⟨v2, rfl, k2⟩, b4⟩
      have K2 := Lib.hid k2
      have B4 := Lib.hid (B3.out.trans (b4.mono B3.out.size))
      have K1' := Lib.hid (K1.out.below b4)
      clear k2 b4 C2 K1
      go_wp2_with fail
      refine (C3.out w4 B4.out).mono ?_
      rintro e w5 ⟨⟨v3, rfl, k3⟩, b5⟩
      have B5 := Lib.hid (HB.out.trans ((B4.out.trans (b5.mono B4.out.size)).mono HB.out.size))
      have HDD := Lib.hid (doms_build3 (K1'.out.below b5) (K2.out.below b5) k3)
      clear k3 b5 C3 K1' K2 B3 B4
      go_wp2_with fail
      go_ret
      exact ⟨⟨⟨some ⟨w5.heap.size, 0, none⟩, 3, 3⟩, rfl, HDD.out⟩, B5.out.trans ((below1 w5 _).mono B5.out.size)⟩
end Go.Proofs.YtcmdgjkoalophaaGreatDoor

/- What the document's Make makes may be. No walk. Made by tools/genmkr.py. -/
namespace Go.Proofs.YtcmdgjkoalophaaGreatDoor
open Go.RowKit

set_option linter.unusedSimpArgs false in
set_option linter.unusedVariables false in
theorem mk_arity1 (la lb lc : List Int) (K ch vars : Int) (n : Nat) (hb : 1 ≤ n ∧ n ≤ 4) : arityB (s9 lc n (s8 lc K ch (s7 lc n (s6 K 1 (s5 lc (s4 lc 1 n (s3 lb vars 0 n (s2 lb vars 0 (s1 la vars n 1))))))))) ⟨(shapesL.getD 1 []).toArray⟩ = true := by
  have e : shapesL.getD 1 [] = [99, 86, 107] := by kernel_rfl
  rw [e]
  have h3 := Nat.mod_lt lc.length (show 0 < 3 by decide)
  have h5 := Nat.mod_lt lc.length (show 0 < 5 by decide)
  have h6 := Nat.mod_lt lc.length (show 0 < 6 by decide)
  simp [s1, s2, s3, s4, s5, s6, s7, s8, s9, arityB, mkL_len, cntI, lenI, listB, bl, rowF]
  all_goals first | omega | (intros; omega)

set_option linter.unusedSimpArgs false in
set_option linter.unusedVariables false in
theorem mk_arity2 (la lb lc : List Int) (K ch vars : Int) (n : Nat) (hb : 1 ≤ n ∧ n ≤ 4) : arityB (s9 lc n (s8 lc K ch (s7 lc n (s6 K 1 (s5 lc (s4 lc 1 n (s3 lb vars 0 n (s2 lb vars 0 (s1 la vars n 2))))))))) ⟨(shapesL.getD 2 []).toArray⟩ = true := by
  have e : shapesL.getD 2 [] = [99, 86, 107] := by kernel_rfl
  rw [e]
  have h3 := Nat.mod_lt lc.length (show 0 < 3 by decide)
  have h5 := Nat.mod_lt lc.length (show 0 < 5 by decide)
  have h6 := Nat.mod_lt lc.length (show 0 < 6 by decide)
  simp [s1, s2, s3, s4, s5, s6, s7, s8, s9, arityB, mkL_len, cntI, lenI, listB, bl, rowF]
  all_goals first | omega | (intros; omega)

set_option linter.unusedSimpArgs false in
set_option linter.unusedVariables false in
theorem mk_arity3 (la lb lc : List Int) (K ch vars : Int) (n : Nat) (hb : 1 ≤ n ∧ n ≤ 4) : arityB (s9 lc n (s8 lc K ch (s7 lc n (s6 K 1 (s5 lc (s4 lc 1 n (s3 lb vars 0 n (s2 lb vars 0 (s1 la vars n 3))))))))) ⟨(shapesL.getD 3 []).toArray⟩ = true := by
  have e : shapesL.getD 3 [] = [99, 86, 107] := by kernel_rfl
  rw [e]
  have h3 := Nat.mod_lt lc.length (show 0 < 3 by decide)
  have h5 := Nat.mod_lt lc.length (show 0 < 5 by decide)
  have h6 := Nat.mod_lt lc.length (show 0 < 6 by decide)
  simp [s1, s2, s3, s4, s5, s6, s7, s8, s9, arityB, mkL_len, cntI, lenI, listB, bl, rowF]
  all_goals first | omega | (intros; omega)

set_option linter.unusedSimpArgs false in
set_option linter.unusedVariables false in
theorem mk_arity4 (la lb lc : List Int) (K ch vars : Int) (n : Nat) (hb : 1 ≤ n ∧ n ≤ 4) : arityB (s9 lc n (s8 lc K ch (s7 lc n (s6 K 1 (s5 lc (s4 lc 1 n (s3 lb vars 0 n (s2 lb vars 1 (s1 la vars n 4))))))))) ⟨(shapesL.getD 4 []).toArray⟩ = true := by
  have e : shapesL.getD 4 [] = [99, 86, 107, 119] := by kernel_rfl
  rw [e]
  have h3 := Nat.mod_lt lc.length (show 0 < 3 by decide)
  have h5 := Nat.mod_lt lc.length (show 0 < 5 by decide)
  have h6 := Nat.mod_lt lc.length (show 0 < 6 by decide)
  simp [s1, s2, s3, s4, s5, s6, s7, s8, s9, arityB, mkL_len, cntI, lenI, listB, bl, rowF]
  all_goals first | omega | (intros; omega)

set_option linter.unusedSimpArgs false in
set_option linter.unusedVariables false in
theorem mk_arity5 (la lb lc : List Int) (K ch vars : Int) : arityB (s9 lc 3 (s8 lc K ch (s7 lc 3 (s6 K 0 (s5 lc (s4 lc 0 3 (s3 lb vars 0 3 (s2 lb vars 0 (s1 la vars 3 5))))))))) ⟨(shapesL.getD 5 []).toArray⟩ = true := by
  have e : shapesL.getD 5 [] = [118, 118, 118] := by kernel_rfl
  rw [e]
  have h3 := Nat.mod_lt lc.length (show 0 < 3 by decide)
  have h5 := Nat.mod_lt lc.length (show 0 < 5 by decide)
  have h6 := Nat.mod_lt lc.length (show 0 < 6 by decide)
  simp [s1, s2, s3, s4, s5, s6, s7, s8, s9, arityB, mkL_len, cntI, lenI, listB, bl, rowF]
  all_goals first | omega | (intros; omega)

set_option linter.unusedSimpArgs false in
set_option linter.unusedVariables false in
theorem mk_arity6 (la lb lc : List Int) (K ch vars : Int) : arityB (s9 lc 3 (s8 lc K ch (s7 lc 3 (s6 K 0 (s5 lc (s4 lc 0 3 (s3 lb vars 0 3 (s2 lb vars 0 (s1 la vars 3 6))))))))) ⟨(shapesL.getD 6 []).toArray⟩ = true := by
  have e : shapesL.getD 6 [] = [118, 118, 118] := by kernel_rfl
  rw [e]
  have h3 := Nat.mod_lt lc.length (show 0 < 3 by decide)
  have h5 := Nat.mod_lt lc.length (show 0 < 5 by decide)
  have h6 := Nat.mod_lt lc.length (show 0 < 6 by decide)
  simp [s1, s2, s3, s4, s5, s6, s7, s8, s9, arityB, mkL_len, cntI, lenI, listB, bl, rowF]
  all_goals first | omega | (intros; omega)

set_option linter.unusedSimpArgs false in
set_option linter.unusedVariables false in
theorem mk_arity7 (la lb lc : List Int) (K ch vars : Int) : arityB (s9 lc 3 (s8 lc K ch (s7 lc 3 (s6 K 0 (s5 lc (s4 lc 0 3 (s3 lb vars 0 3 (s2 lb vars 0 (s1 la vars 3 7))))))))) ⟨(shapesL.getD 7 []).toArray⟩ = true := by
  have e : shapesL.getD 7 [] = [118, 118, 118] := by kernel_rfl
  rw [e]
  have h3 := Nat.mod_lt lc.length (show 0 < 3 by decide)
  have h5 := Nat.mod_lt lc.length (show 0 < 5 by decide)
  have h6 := Nat.mod_lt lc.length (show 0 < 6 by decide)
  simp [s1, s2, s3, s4, s5, s6, s7, s8, s9, arityB, mkL_len, cntI, lenI, listB, bl, rowF]
  all_goals first | omega | (intros; omega)

set_option linter.unusedSimpArgs false in
set_option linter.unusedVariables false in
theorem mk_arity8 (la lb lc : List Int) (K ch vars : Int) : arityB (s9 lc 2 (s8 lc K ch (s7 lc 2 (s6 K 0 (s5 lc (s4 lc 0 2 (s3 lb vars 0 2 (s2 lb vars 0 (s1 la vars 2 8))))))))) ⟨(shapesL.getD 8 []).toArray⟩ = true := by
  have e : shapesL.getD 8 [] = [118, 118] := by kernel_rfl
  rw [e]
  have h3 := Nat.mod_lt lc.length (show 0 < 3 by decide)
  have h5 := Nat.mod_lt lc.length (show 0 < 5 by decide)
  have h6 := Nat.mod_lt lc.length (show 0 < 6 by decide)
  simp [s1, s2, s3, s4, s5, s6, s7, s8, s9, arityB, mkL_len, cntI, lenI, listB, bl, rowF]
  all_goals first | omega | (intros; omega)

set_option linter.unusedSimpArgs false in
set_option linter.unusedVariables false in
theorem mk_arity9 (la lb lc : List Int) (K ch vars : Int) : arityB (s9 lc 3 (s8 lc K ch (s7 lc 3 (s6 K 0 (s5 lc (s4 lc 0 3 (s3 lb vars 0 3 (s2 lb vars 0 (s1 la vars 3 9))))))))) ⟨(shapesL.getD 9 []).toArray⟩ = true := by
  have e : shapesL.getD 9 [] = [118, 118, 118] := by kernel_rfl
  rw [e]
  have h3 := Nat.mod_lt lc.length (show 0 < 3 by decide)
  have h5 := Nat.mod_lt lc.length (show 0 < 5 by decide)
  have h6 := Nat.mod_lt lc.length (show 0 < 6 by decide)
  simp [s1, s2, s3, s4, s5, s6, s7, s8, s9, arityB, mkL_len, cntI, lenI, listB, bl, rowF]
  all_goals first | omega | (intros; omega)

set_option linter.unusedSimpArgs false in
set_option linter.unusedVariables false in
theorem mk_arity10 (la lb lc : List Int) (K ch vars : Int) : arityB (s9 lc 3 (s8 lc K ch (s7 lc 3 (s6 K 0 (s5 lc (s4 lc 0 3 (s3 lb vars 0 3 (s2 lb vars 0 (s1 la vars 3 10))))))))) ⟨(shapesL.getD 10 []).toArray⟩ = true := by
  have e : shapesL.getD 10 [] = [118, 118, 118] := by kernel_rfl
  rw [e]
  have h3 := Nat.mod_lt lc.length (show 0 < 3 by decide)
  have h5 := Nat.mod_lt lc.length (show 0 < 5 by decide)
  have h6 := Nat.mod_lt lc.length (show 0 < 6 by decide)
  simp [s1, s2, s3, s4, s5, s6, s7, s8, s9, arityB, mkL_len, cntI, lenI, listB, bl, rowF]
  all_goals first | omega | (intros; omega)

set_option linter.unusedSimpArgs false in
set_option linter.unusedVariables false in
theorem mk_arity11 (la lb lc : List Int) (K ch vars : Int) : arityB (s9 lc 2 (s8 lc K ch (s7 lc 2 (s6 K 0 (s5 lc (s4 lc 1 2 (s3 lb vars 0 2 (s2 lb vars 0 (s1 la vars 2 11))))))))) ⟨(shapesL.getD 11 []).toArray⟩ = true := by
  have e : shapesL.getD 11 [] = [118, 99, 118] := by kernel_rfl
  rw [e]
  have h3 := Nat.mod_lt lc.length (show 0 < 3 by decide)
  have h5 := Nat.mod_lt lc.length (show 0 < 5 by decide)
  have h6 := Nat.mod_lt lc.length (show 0 < 6 by decide)
  simp [s1, s2, s3, s4, s5, s6, s7, s8, s9, arityB, mkL_len, cntI, lenI, listB, bl, rowF]
  all_goals first | omega | (intros; omega)

set_option linter.unusedSimpArgs false in
set_option linter.unusedVariables false in
theorem mk_arity12 (la lb lc : List Int) (K ch vars : Int) (n : Nat) (hb : 1 ≤ n ∧ n ≤ 4) : arityB (s9 lc n (s8 lc K ch (s7 lc n (s6 K 0 (s5 lc (s4 lc 0 n (s3 lb vars 1 n (s2 lb vars 0 (s1 la vars n 12))))))))) ⟨(shapesL.getD 12 []).toArray⟩ = true := by
  have e : shapesL.getD 12 [] = [86, 87] := by kernel_rfl
  rw [e]
  have h3 := Nat.mod_lt lc.length (show 0 < 3 by decide)
  have h5 := Nat.mod_lt lc.length (show 0 < 5 by decide)
  have h6 := Nat.mod_lt lc.length (show 0 < 6 by decide)
  simp [s1, s2, s3, s4, s5, s6, s7, s8, s9, arityB, mkL_len, cntI, lenI, listB, bl, rowF]
  all_goals first | omega | (intros; omega)

set_option linter.unusedSimpArgs false in
set_option linter.unusedVariables false in
theorem mk_arity13 (la lb lc : List Int) (K ch vars : Int) : arityB (s9 lc 1 (s8 lc K ch (s7 lc 1 (s6 K 1 (s5 lc (s4 lc 0 1 (s3 lb vars 0 1 (s2 lb vars 1 (s1 la vars 1 13))))))))) ⟨(shapesL.getD 13 []).toArray⟩ = true := by
  have e : shapesL.getD 13 [] = [118, 107, 119] := by kernel_rfl
  rw [e]
  have h3 := Nat.mod_lt lc.length (show 0 < 3 by decide)
  have h5 := Nat.mod_lt lc.length (show 0 < 5 by decide)
  have h6 := Nat.mod_lt lc.length (show 0 < 6 by decide)
  simp [s1, s2, s3, s4, s5, s6, s7, s8, s9, arityB, mkL_len, cntI, lenI, listB, bl, rowF]
  all_goals first | omega | (intros; omega)

set_option linter.unusedSimpArgs false in
set_option linter.unusedVariables false in
theorem mk_arity14 (la lb lc : List Int) (K ch vars : Int) : arityB (s9 lc 1 (s8 lc K ch (s7 lc 1 (s6 K 1 (s5 lc (s4 lc 0 1 (s3 lb vars 0 1 (s2 lb vars 1 (s1 la vars 1 14))))))))) ⟨(shapesL.getD 14 []).toArray⟩ = true := by
  have e : shapesL.getD 14 [] = [118, 107, 119] := by kernel_rfl
  rw [e]
  have h3 := Nat.mod_lt lc.length (show 0 < 3 by decide)
  have h5 := Nat.mod_lt lc.length (show 0 < 5 by decide)
  have h6 := Nat.mod_lt lc.length (show 0 < 6 by decide)
  simp [s1, s2, s3, s4, s5, s6, s7, s8, s9, arityB, mkL_len, cntI, lenI, listB, bl, rowF]
  all_goals first | omega | (intros; omega)

set_option linter.unusedSimpArgs false in
set_option linter.unusedVariables false in
theorem mk_arity15 (la lb lc : List Int) (K ch vars : Int) : arityB (s9 lc 1 (s8 lc K ch (s7 lc 1 (s6 K 1 (s5 lc (s4 lc 0 1 (s3 lb vars 0 1 (s2 lb vars 1 (s1 la vars 1 15))))))))) ⟨(shapesL.getD 15 []).toArray⟩ = true := by
  have e : shapesL.getD 15 [] = [118, 107, 119] := by kernel_rfl
  rw [e]
  have h3 := Nat.mod_lt lc.length (show 0 < 3 by decide)
  have h5 := Nat.mod_lt lc.length (show 0 < 5 by decide)
  have h6 := Nat.mod_lt lc.length (show 0 < 6 by decide)
  simp [s1, s2, s3, s4, s5, s6, s7, s8, s9, arityB, mkL_len, cntI, lenI, listB, bl, rowF]
  all_goals first | omega | (intros; omega)

set_option linter.unusedSimpArgs false in
set_option linter.unusedVariables false in
theorem mk_arity16 (la lb lc : List Int) (K ch vars : Int) : arityB (s9 lc 1 (s8 lc K ch (s7 lc 1 (s6 K 1 (s5 lc (s4 lc 0 1 (s3 lb vars 0 1 (s2 lb vars 1 (s1 la vars 1 16))))))))) ⟨(shapesL.getD 16 []).toArray⟩ = true := by
  have e : shapesL.getD 16 [] = [118, 107, 119] := by kernel_rfl
  rw [e]
  have h3 := Nat.mod_lt lc.length (show 0 < 3 by decide)
  have h5 := Nat.mod_lt lc.length (show 0 < 5 by decide)
  have h6 := Nat.mod_lt lc.length (show 0 < 6 by decide)
  simp [s1, s2, s3, s4, s5, s6, s7, s8, s9, arityB, mkL_len, cntI, lenI, listB, bl, rowF]
  all_goals first | omega | (intros; omega)

set_option linter.unusedSimpArgs false in
set_option linter.unusedVariables false in
theorem mk_arity17 (la lb lc : List Int) (K ch vars : Int) (n : Nat) (hb : 1 ≤ n ∧ n ≤ 4) : arityB (s9 lc n (s8 lc K ch (s7 lc n (s6 K 0 (s5 lc (s4 lc 0 n (s3 lb vars 0 n (s2 lb vars 0 (s1 la vars n 17))))))))) ⟨(shapesL.getD 17 []).toArray⟩ = true := by
  have e : shapesL.getD 17 [] = [86] := by kernel_rfl
  rw [e]
  have h3 := Nat.mod_lt lc.length (show 0 < 3 by decide)
  have h5 := Nat.mod_lt lc.length (show 0 < 5 by decide)
  have h6 := Nat.mod_lt lc.length (show 0 < 6 by decide)
  simp [s1, s2, s3, s4, s5, s6, s7, s8, s9, arityB, mkL_len, cntI, lenI, listB, bl, rowF]
  all_goals first | omega | (intros; omega)

set_option linter.unusedSimpArgs false in
set_option linter.unusedVariables false in
theorem mk_arity18 (la lb lc : List Int) (K ch vars : Int) (n : Nat) (hb : 1 ≤ n ∧ n ≤ 4) : arityB (s9 lc n (s8 lc K ch (s7 lc n (s6 K 0 (s5 lc (s4 lc 0 n (s3 lb vars 0 n (s2 lb vars 0 (s1 la vars n 18))))))))) ⟨(shapesL.getD 18 []).toArray⟩ = true := by
  have e : shapesL.getD 18 [] = [86, 114] := by kernel_rfl
  rw [e]
  have h3 := Nat.mod_lt lc.length (show 0 < 3 by decide)
  have h5 := Nat.mod_lt lc.length (show 0 < 5 by decide)
  have h6 := Nat.mod_lt lc.length (show 0 < 6 by decide)
  simp [s1, s2, s3, s4, s5, s6, s7, s8, s9, arityB, mkL_len, cntI, lenI, listB, bl, rowF]
  all_goals first | omega | (intros; omega)

set_option linter.unusedSimpArgs false in
set_option linter.unusedVariables false in
theorem mk_arity19 (la lb lc : List Int) (K ch vars : Int) (n : Nat) (hb : 1 ≤ n ∧ n ≤ 4) : arityB (s9 lc n (s8 lc K ch (s7 lc n (s6 K 1 (s5 lc (s4 lc 1 n (s3 lb vars 0 n (s2 lb vars 0 (s1 la vars n 19))))))))) ⟨(shapesL.getD 19 []).toArray⟩ = true := by
  have e : shapesL.getD 19 [] = [86, 99, 100, 107] := by kernel_rfl
  rw [e]
  have h3 := Nat.mod_lt lc.length (show 0 < 3 by decide)
  have h5 := Nat.mod_lt lc.length (show 0 < 5 by decide)
  have h6 := Nat.mod_lt lc.length (show 0 < 6 by decide)
  simp [s1, s2, s3, s4, s5, s6, s7, s8, s9, arityB, mkL_len, cntI, lenI, listB, bl, rowF]
  all_goals first | omega | (intros; omega)

set_option linter.unusedSimpArgs false in
set_option linter.unusedVariables false in
theorem mk_arity20 (la lb lc : List Int) (K ch vars : Int) (n : Nat) (hb : 1 ≤ n ∧ n ≤ 4) : arityB (s9 lc n (s8 lc K ch (s7 lc n (s6 K 0 (s5 lc (s4 lc 0 n (s3 lb vars 0 n (s2 lb vars 0 (s1 la vars n 20))))))))) ⟨(shapesL.getD 20 []).toArray⟩ = true := by
  have e : shapesL.getD 20 [] = [86] := by kernel_rfl
  rw [e]
  have h3 := Nat.mod_lt lc.length (show 0 < 3 by decide)
  have h5 := Nat.mod_lt lc.length (show 0 < 5 by decide)
  have h6 := Nat.mod_lt lc.length (show 0 < 6 by decide)
  simp [s1, s2, s3, s4, s5, s6, s7, s8, s9, arityB, mkL_len, cntI, lenI, listB, bl, rowF]
  all_goals first | omega | (intros; omega)

set_option linter.unusedSimpArgs false in
set_option linter.unusedVariables false in
theorem mk_arity21 (la lb lc : List Int) (K ch vars : Int) (n : Nat) (hb : 1 ≤ n ∧ n ≤ 4) : arityB (s9 lc n (s8 lc K ch (s7 lc n (s6 K 0 (s5 lc (s4 lc 1 n (s3 lb vars 0 n (s2 lb vars 0 (s1 la vars n 21))))))))) ⟨(shapesL.getD 21 []).toArray⟩ = true := by
  have e : shapesL.getD 21 [] = [86, 99, 100, 101] := by kernel_rfl
  rw [e]
  have h3 := Nat.mod_lt lc.length (show 0 < 3 by decide)
  have h5 := Nat.mod_lt lc.length (show 0 < 5 by decide)
  have h6 := Nat.mod_lt lc.length (show 0 < 6 by decide)
  simp [s1, s2, s3, s4, s5, s6, s7, s8, s9, arityB, mkL_len, cntI, lenI, listB, bl, rowF]
  all_goals first | omega | (intros; omega)

set_option linter.unusedSimpArgs false in
set_option linter.unusedVariables false in
theorem mk_arity22 (la lb lc : List Int) (K ch vars : Int) (n : Nat) (hb : 1 ≤ n ∧ n ≤ 4) : arityB (s9 lc n (s8 lc K ch (s7 lc n (s6 K 0 (s5 lc (s4 lc 0 n (s3 lb vars 1 n (s2 lb vars 0 (s1 la vars n 22))))))))) ⟨(shapesL.getD 22 []).toArray⟩ = true := by
  have e : shapesL.getD 22 [] = [86, 87] := by kernel_rfl
  rw [e]
  have h3 := Nat.mod_lt lc.length (show 0 < 3 by decide)
  have h5 := Nat.mod_lt lc.length (show 0 < 5 by decide)
  have h6 := Nat.mod_lt lc.length (show 0 < 6 by decide)
  simp [s1, s2, s3, s4, s5, s6, s7, s8, s9, arityB, mkL_len, cntI, lenI, listB, bl, rowF]
  all_goals first | omega | (intros; omega)

set_option linter.unusedSimpArgs false in
set_option linter.unusedVariables false in
theorem mk_arity23 (la lb lc : List Int) (K ch vars : Int) (n : Nat) (hb : 1 ≤ n ∧ n ≤ 4) : arityB (s9 lc n (s8 lc K ch (s7 lc n (s6 K 0 (s5 lc (s4 lc 0 n (s3 lb vars 1 n (s2 lb vars 0 (s1 la vars n 23))))))))) ⟨(shapesL.getD 23 []).toArray⟩ = true := by
  have e : shapesL.getD 23 [] = [86, 87] := by kernel_rfl
  rw [e]
  have h3 := Nat.mod_lt lc.length (show 0 < 3 by decide)
  have h5 := Nat.mod_lt lc.length (show 0 < 5 by decide)
  have h6 := Nat.mod_lt lc.length (show 0 < 6 by decide)
  simp [s1, s2, s3, s4, s5, s6, s7, s8, s9, arityB, mkL_len, cntI, lenI, listB, bl, rowF]
  all_goals first | omega | (intros; omega)

end Go.Proofs.YtcmdgjkoalophaaGreatDoor
