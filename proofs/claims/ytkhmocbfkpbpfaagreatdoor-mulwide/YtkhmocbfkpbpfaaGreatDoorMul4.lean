/- Contract of mul's solved: the values that are in a solution, domain by domain. -/
import Derived.Test.YtkhmocbfkpbpfaaGreatDoorMrd4
import Derived.Test.YtkhmocbfkpbpfaaGreatDoorDput
import Derived.Test.YtkhmocbfkpbpfaaGreatDoorRg1
import Derived.Lib.QuietBelow
namespace Go.Proofs.YtkhmocbfkpbpfaaGreatDoor
open Go.RowKit Go.Sort

set_option maxHeartbeats 4000000 in
set_option maxRecDepth 100000 in
theorem solved_any (g : Nat) (eg : ∀ args w, (callFunc g args).run Tryz.prog w = .ok (.enter g args) w) (f : Int → Int → Option Int) (x : Sl) (A Bs C : List Int) (w : World) (h : DomsIn w x [A, Bs, C]) (hT : TabZ w) (hlen : A.length * Bs.length ≤ 4096) (hA : A.length ≤ 4096) (hB : Bs.length ≤ 4096)
    (hf : ∀ a b W, -2000000 ≤ a ∧ a ≤ 2000000 → -2000000 ≤ b ∧ b ≤ 2000000 → Calls Tryz.prog g #[.int .i64 a, .int .i64 b] W fun e w' => e = .returned (optI (f a b)) ∧ W = w')
    (hr : ∀ a b r, -2000000 ≤ a ∧ a ≤ 2000000 → -2000000 ≤ b ∧ b ≤ 2000000 → f a b = some r → -1000000000000000 ≤ r ∧ r ≤ 1000000000000000) :
    Calls Tryz.prog 136 #[.func (.func g) #[] #[], .slice x.A x.n x.c] w fun e w' => (∃ y : Sl, e = .returned (.slice y.A y.n y.c) ∧ DomsIn w' y [ofL (h1 (hitsE f C A Bs)), ofL (h2 (hitsE f C A Bs)), ofL (h3 (hitsE f C A Bs))]) ∧ Below w.heap.size w w' := by
  have HD := Lib.hid h
  have HT := Lib.hid hT
  have HF := Lib.hid hf
  have HR := Lib.hid hr
  have hxn : x.n = 3 := h.len
  obtain ⟨gb, o, d0, ex, p0, p1, p2, hD0⟩ := h.at_ 0 (by omega)
  obtain ⟨gb', o', d1, ex', q0, q1, q2, hD1⟩ := h.at_ 1 (by omega)
  have eg1 : gb' = gb ∧ o' = o := by rw [ex] at ex'; injection ex' with ex'; injection ex' with e1 e2 _; exact ⟨e1.symm, e2.symm⟩
  obtain ⟨rfl, rfl⟩ := eg1
  have hD0' : IsDom w d0.val A := hD0
  have hD1' : IsDom w d1.val Bs := hD1
  have HDA := Lib.hid hD0'
  have CL1 := Lib.hid (list_dom d1.val Bs w hD1' hT)
  have HLA := Lib.hid hD0'.lim
  have HLB := Lib.hid hD1'.lim
  obtain ⟨O1, hO1⟩ : ∃ O, O = ofL (h1 (hitsE f C A Bs)) := ⟨_, rfl⟩
  obtain ⟨O2, hO2⟩ : ∃ O, O = ofL (h2 (hitsE f C A Bs)) := ⟨_, rfl⟩
  obtain ⟨O3, hO3⟩ : ∃ O, O = ofL (h3 (hitsE f C A Bs)) := ⟨_, rfl⟩
  rw [← hO1, ← hO2, ← hO3]
  have HO1 := Lib.hid hO1
  have HO2 := Lib.hid hO2
  have HO3 := Lib.hid hO3
  clear hD0 hD1 hD0' hD1' h hT hf hr ex' hO1 hO2 hO3
  rw [ex]
  rw [Nat.zero_mul, Nat.add_zero] at p0 p1 p2
  rw [Nat.one_mul] at q0 q1 q2
  go_enter Tryz.func136, Tryz.ntmps136
  go_wp2_with fail
  refine CL1.out.mono ?_
  rintro e w1 ⟨v1, rfl, hB1, b1⟩
  obtain ⟨YB, kB, rfl⟩ := slice_row hB1
  have S1 : SepL w.heap.size w1 [(⟨YB, Bs.length, kB⟩, Bs)] := (SepL.nil _ w (Nat.le_refl _)).cons b1 hB1 (fun g hg => (own_lt' hB1 hg).1)
  have HS1 := Lib.hid S1
  have B1 := Lib.hid b1
  have CL0 := Lib.hid (list_dom d0.val A w1 (HDA.out.below b1) (HT.out.below b1))
  have p0 := (b1.cell (p := ⟨gb', o', none⟩) (World.block_lt_of_cell? _ _ p0)).trans p0
  have p1 := (b1.cell (p := ⟨gb', o' + 1, none⟩) (World.block_lt_of_cell? _ _ p1)).trans p1
  have p2 := (b1.cell (p := ⟨gb', o' + 2, none⟩) (World.block_lt_of_cell? _ _ p2)).trans p2
  clear CL1 S1 hB1 b1 q0 q1 q2
  go_wp2_with fail
  refine CL0.out.mono ?_
  rintro e w2 ⟨v2, rfl, hA2, b2⟩
  obtain ⟨YA, kA, rfl⟩ := slice_row hA2
  have S2 : SepL w.heap.size w2 [(⟨YA, A.length, kA⟩, A), (⟨YB, Bs.length, kB⟩, Bs)] := HS1.out.cons b2 (own_base hA2 HS1.out.lo) (fun g hg => (own_lt' hA2 hg).1)
  have S5 : SepL w.heap.size w2 [(⟨none, 0, 0⟩, []), (⟨none, 0, 0⟩, []), (⟨none, 0, 0⟩, []), (⟨YA, A.length, kA⟩, A), (⟨YB, Bs.length, kB⟩, Bs)] :=
    ((S2.cons (Below.refl _ _) (Row3.nil _ _) (by intro g hg; cases hg)).cons (Below.refl _ _) (Row3.nil _ _) (by intro g hg; cases hg)).cons (Below.refl _ _) (Row3.nil _ _) (by intro g hg; cases hg)
  have HS5 := Lib.hid S5
  have B2 := Lib.hid (B1.out.trans (b2.mono B1.out.size))
  clear CL0 S2 S5 hA2 b2 p0 p1 p2 HS1 B1 HDA
  go_wp2_with fail
  go_loopw [5, 6, 7, 24] (fun a b c i wr => ∃ (k : Nat) (y1 y2 y3 : Sl), a = .slice y1.A y1.n y1.c ∧ b = .slice y2.A y2.n y2.c ∧ c = .slice y3.A y3.n y3.c ∧ i = .int .i64 (k : Nat) ∧ k ≤ A.length ∧
      Hid (SepL w.heap.size wr [(y1, h1 (hitsE f C (A.take k) Bs)), (y2, h2 (hitsE f C (A.take k) Bs)), (y3, h3 (hitsE f C (A.take k) Bs)), (⟨YA, A.length, kA⟩, A), (⟨YB, Bs.length, kB⟩, Bs)]) ∧ Hid (Below w.heap.size w wr)) (fun _ _ _ i _ => A.length - (intOf i).toNat)
  case atStart => exact ⟨0, ⟨none, 0, 0⟩, ⟨none, 0, 0⟩, ⟨none, 0, 0⟩, rfl, rfl, rfl, rfl, by omega, HS5, B2⟩
  case round =>
    clear HS5 B2
    obtain ⟨k, y1, y2, y3, rfl, rfl, rfl, rfl, hk, HS, HB⟩ := hrel
    by_cases hlt : k < A.length
    · obtain ⟨adA, eA, -, -, cA⟩ := row_cell (HS.out.row (k := 3) rfl) (k := k) hlt
      simp only at eA
      subst eA
      have hav := HLA.out _ (getD_mem A k hlt)
      have HST := Lib.hid (hitsE_step f C A Bs k hlt)
      have HLN : Hid ((hitsE f C (A.take k) Bs).length ≤ 4096) := Lib.hid (by
        have h1 := hitsE_len f C (A.take k) Bs
        have h2 : (A.take k).length * Bs.length ≤ A.length * Bs.length := Nat.mul_le_mul_right _ (by rw [List.length_take]; omega)
        omega)
      obtain ⟨av, hav'⟩ : ∃ av, av = A.getD k 0 := ⟨_, rfl⟩
      rw [← hav'] at cA hav HST
      generalize hitsE f C (A.take k) Bs = X at HS HST HLN
      have HAV := Lib.hid hav
      clear hav' hav
      obtain ⟨wo, rfl⟩ : ∃ wo, wo = wr := ⟨_, rfl⟩
      go_wp2_with fail
      go_loopw [5, 6, 7, 30] (fun a b c j wr => ∃ (j' : Nat) (y1 y2 y3 : Sl), a = .slice y1.A y1.n y1.c ∧ b = .slice y2.A y2.n y2.c ∧ c = .slice y3.A y3.n y3.c ∧ j = .int .i64 (j' : Nat) ∧ j' ≤ Bs.length ∧
          Hid (SepL w.heap.size wr [(y1, h1 (X ++ hitsR f C av (Bs.take j'))), (y2, h2 (X ++ hitsR f C av (Bs.take j'))), (y3, h3 (X ++ hitsR f C av (Bs.take j'))), (⟨some adA, A.length, kA⟩, A), (⟨YB, Bs.length, kB⟩, Bs)]) ∧ Hid (Below w.heap.size w wr)) (fun _ _ _ j _ => Bs.length - (intOf j).toNat)
      case atStart => exact ⟨0, y1, y2, y3, rfl, rfl, rfl, rfl, by omega, Lib.hid (by have := HS.out; simpa [hitsR] using this), HB⟩
      case round =>
        clear HS HB
        obtain ⟨j, y1, y2, y3, rfl, rfl, rfl, rfl, hj, HS, HB⟩ := hrel
        by_cases hlj : j < Bs.length
        · obtain ⟨adB, eB, -, -, cB⟩ := row_cell (HS.out.row (k := 4) rfl) (k := j) hlj
          simp only at eB
          subst eB
          have hbv := HLB.out _ (getD_mem Bs j hlj)
          have hSTb := hitsR_step f C av Bs j hlj
          have HLR : Hid ((hitsR f C av (Bs.take j)).length ≤ 4096) := Lib.hid (by
            have h1 := hitsR_len f C av (Bs.take j)
            rw [List.length_take] at h1
            omega)
          obtain ⟨bv, hbv'⟩ : ∃ bv, bv = Bs.getD j 0 := ⟨_, rfl⟩
          rw [← hbv'] at cB hbv hSTb
          have CF := Lib.hid (HF.out av bv wr HAV.out hbv)
          have hrr := fun r => HR.out av bv r HAV.out hbv
          have HITN : Hid (f av bv = none → hitsR f C av (Bs.take (j + 1)) = hitsR f C av (Bs.take j)) := Lib.hid (fun e => by rw [hSTb]; simp [hitP, e])
          have HITM : Hid (∀ r, f av bv = some r → r ∉ C → hitsR f C av (Bs.take (j + 1)) = hitsR f C av (Bs.take j)) := Lib.hid (fun r e hr => by rw [hSTb]; simp [hitP, e, hr])
          have HITY : Hid (∀ r, f av bv = some r → r ∈ C → hitsR f C av (Bs.take (j + 1)) = hitsR f C av (Bs.take j) ++ [(av, bv, r)]) := Lib.hid (fun r e hr => by rw [hSTb]; simp [hitP, e, hr])
          generalize hitsR f C av (Bs.take j) = Y at HS HITN HITM HITY HLR
          have HBV := Lib.hid hbv
          clear hSTb hbv' hbv
          cases hfv : f av bv with
          | none =>
            rw [hfv] at CF
            change Hid (Calls Tryz.prog g #[.int .i64 av, .int .i64 bv] wr fun e w' => e = .returned (.tuple #[.int .i64 0, .bool false]) ∧ wr = w') at CF
            have HY := Lib.hid (HITN.out hfv)
            clear HITN HITM HITY hrr hfv
            go_wp2_with fail
            refine CF.out.mono ?_
            rintro e w3 ⟨rfl, rfl⟩
            clear CF
            go_wp2_with fail
            go_roundw
            case rel => exact ⟨j + 1, y1, y2, y3, rfl, rfl, rfl, by go_num, by omega, Lib.hid (by rw [HY.out]; exact HS.out), HB⟩
            case measure => simp [intOf]; omega
          | some r =>
            rw [hfv] at CF
            change Hid (Calls Tryz.prog g #[.int .i64 av, .int .i64 bv] wr fun e w' => e = .returned (.tuple #[.int .i64 r, .bool true]) ∧ wr = w') at CF
            have hrl := hrr r hfv
            obtain ⟨g2, o2, d2, e2, r0, r1, r2, hD2⟩ := (HD.out.below HB.out).at_ 2 (by omega)
            have eg2 : g2 = gb' ∧ o2 = o' := by rw [ex] at e2; injection e2 with e2; injection e2 with e3 e4 _; exact ⟨e3.symm, e4.symm⟩
            obtain ⟨rfl, rfl⟩ := eg2
            have hD2' : IsDom wr d2.val C := hD2
            have r0' : wr.cell? ⟨g2, o2 + 6, none⟩ = some (.int .i64 d2.s) := r0
            have r1' : wr.cell? ⟨g2, o2 + 6 + 1, none⟩ = some (.slice d2.A d2.n d2.c) := r1
            have r2' : wr.cell? ⟨g2, o2 + 6 + 2, none⟩ = some (.int .i64 d2.z) := r2
            have CH := Lib.hid (D.has_dom d2.val C r wr hD2' (by omega) (by omega))
            clear hrr hrl e2 r0 r1 r2 hD2 hD2'
            by_cases hm : r ∈ C
            · rw [decide_eq_true hm] at CH
              have HY := Lib.hid (HITY.out r hfv hm)
              clear HITN HITM HITY hfv hm
              go_wp2_with fail
              refine CF.out.mono ?_
              rintro e w3 ⟨rfl, rfl⟩
              clear CF
              go_wp2_with fail
              refine CH.out.mono ?_
              rintro e w3 ⟨rfl, b3⟩
              have HS3 := Lib.hid (HS.out.below b3)
              have HB3 := Lib.hid (HB.out.trans (b3.mono HB.out.size))
              have N1 : Hid ((h1 (X ++ Y)).length < 1000000) := Lib.hid (by have := HLN.out; have := HLR.out; simp [h1]; omega)
              have N2 : Hid ((h2 (X ++ Y)).length < 1000000) := Lib.hid (by have := HLN.out; have := HLR.out; simp [h2]; omega)
              have N3 : Hid ((h3 (X ++ Y)).length < 1000000) := Lib.hid (by have := HLN.out; have := HLR.out; simp [h3]; omega)
              have LO := Lib.hid (HB.out.size)
              clear CH b3 HS HB r0' r1' r2'
              go_wp2_with (first
                | (at_builtin; refine wpList_append_sep rfl _ _ 30 rfl Tryz.underlying30 Tryz.info3 HS3.out 0 y1 _ av rfl rfl rfl N1.out ?_; intro y1' w4 S4 b4; have HS4 := Lib.hid S4; have HB4 := Lib.hid (HB3.out.trans b4); clear S4 b4)
                | (at_builtin; refine wpList_append_sep rfl _ _ 30 rfl Tryz.underlying30 Tryz.info3 HS4.out 1 y2 _ bv rfl rfl rfl N2.out ?_; intro y2' w5 S5 b5; have HS5 := Lib.hid S5; have HB5 := Lib.hid (HB4.out.trans b5); clear S5 b5)
                | (at_builtin; refine wpList_append_sep rfl _ _ 30 rfl Tryz.underlying30 Tryz.info3 HS5.out 2 y3 _ r rfl rfl rfl N3.out ?_; intro y3' w6 S6 b6; have HS6 := Lib.hid S6; have HB6 := Lib.hid (HB5.out.trans b6); clear S6 b6))
              go_roundw
              case rel => exact ⟨j + 1, y1', y2', y3', rfl, rfl, rfl, by go_num, by omega, Lib.hid (by
                rw [HY.out, ← List.append_assoc, h1_app (X ++ Y), h2_app (X ++ Y), h3_app (X ++ Y)]
                exact HS6.out), HB6⟩
              case measure => simp [intOf]; omega
            · rw [decide_eq_false hm] at CH
              have HY := Lib.hid (HITM.out r hfv hm)
              clear HITN HITM HITY hfv hm
              go_wp2_with fail
              refine CF.out.mono ?_
              rintro e w3 ⟨rfl, rfl⟩
              clear CF
              go_wp2_with fail
              refine CH.out.mono ?_
              rintro e w3 ⟨rfl, b3⟩
              have HS3 := Lib.hid (HS.out.below b3)
              have HB3 := Lib.hid (HB.out.trans (b3.mono HB.out.size))
              clear CH b3 HS HB r0' r1' r2'
              go_wp2_with fail
              go_roundw
              case rel => exact ⟨j + 1, y1, y2, y3, rfl, rfl, rfl, by go_num, by omega, Lib.hid (by rw [HY.out]; exact HS3.out), HB3⟩
              case measure => simp [intOf]; omega
        · have HS7 : Hid (SepL w.heap.size wr [(y1, h1 (X ++ hitsR f C av Bs)), (y2, h2 (X ++ hitsR f C av Bs)), (y3, h3 (X ++ hitsR f C av Bs)), (⟨some adA, A.length, kA⟩, A), (⟨YB, Bs.length, kB⟩, Bs)]) := Lib.hid (by
            have := HS.out
            rwa [List.take_of_length_le (show Bs.length ≤ j by omega)] at this)
          clear HS
          go_wp2_with fail
          go_roundw
          case rel => exact ⟨k + 1, y1, y2, y3, rfl, rfl, rfl, by go_num, by omega, Lib.hid (by rw [HST.out]; exact HS7.out), HB⟩
          case measure => simp [intOf]; omega
    · have HS7 : Hid (SepL w.heap.size wr [(y1, h1 (hitsE f C A Bs)), (y2, h2 (hitsE f C A Bs)), (y3, h3 (hitsE f C A Bs)), (⟨YA, A.length, kA⟩, A), (⟨YB, Bs.length, kB⟩, Bs)]) := Lib.hid (by
        have := HS.out
        rwa [List.take_of_length_le (show A.length ≤ k by omega)] at this)
      have hE : (hitsE f C A Bs).length ≤ 4096 := Nat.le_trans (hitsE_len f C A Bs) hlen
      obtain ⟨X, hX⟩ : ∃ X, X = hitsE f C A Bs := ⟨_, rfl⟩
      rw [← hX] at HS7 hE HO1 HO2 HO3
      have R1 := HS7.out.row (k := 0) rfl
      have R2 := HS7.out.row (k := 1) rfl
      have R3 := HS7.out.row (k := 2) rfl
      have L1 : (h1 X).length = X.length := by simp [h1]
      have L2 : (h2 X).length = X.length := by simp [h2]
      have L3 : (h3 X).length = X.length := by simp [h3]
      have I1 := Lib.hid (ints_own R1 (by omega))
      have I2 := Lib.hid (ints_own R2 (by omega))
      have I3 := Lib.hid (ints_own R3 (by omega))
      have C1 := Lib.hid (mulOf_any y1 (h1 X) wr I1.out.len (by have := I1.out.lies; rwa [I1.out.len] at this) (by omega))
      have C2 := Lib.hid (fun W (hW : Below wr.heap.size wr W) => mulOf_any y2 (h2 X) W I2.out.len (by have := (I2.out.below hW).lies; rwa [I2.out.len] at this) (by omega))
      have C3 := Lib.hid (fun W (hW : Below wr.heap.size wr W) => mulOf_any y3 (h3 X) W I3.out.len (by have := (I3.out.below hW).lies; rwa [I3.out.len] at this) (by omega))
      rw [← HO1.out] at C1
      rw [← HO2.out] at C2
      rw [← HO3.out] at C3
      clear hX HO1 HO2 HO3 HS7 R1 R2 R3 L1 L2 L3 I1 I2 I3 HS hE
      go_wp2_with fail
      refine C1.out.mono ?_
      rintro e w3 ⟨⟨v1, rfl, k1⟩, b3⟩
      have K1 := Lib.hid k1
      have B3 := Lib.hid b3
      clear k1 b3 C1
      go_wp2_with fail
      refine (C2.out w3 B3.out).mono ?_
      rintro e w4 ⟨⟨v2, rfl, k2⟩, b4⟩
      have K2 := Lib.hid k2
      have B4 := Lib.hid (B3.out.trans (b4.mono B3.out.size))
      have K1' := Lib.hid (K1.out.below b4)
      clear k2 b4 C2 K1
      go_wp2_with fail
      refine (C3.out w4 B4.out).mono ?_
      rintro e w5 ⟨⟨v3, rfl, k3⟩, b5⟩
      have B5 := Lib.hid (HB.out.trans ((B4.out.trans (b5.mono B4.out.size)).mono HB.out.size))
      have HDD := Lib.hid (doms_build3 (K1'.out.below b5) (K2.out.below b5) k3)
      clear k3 b5 C3 K1' K2 B3 B4
      go_wp2_with fail
      go_ret
      exact ⟨⟨⟨some ⟨w5.heap.size, 0, none⟩, 3, 3⟩, rfl, HDD.out⟩, B5.out.trans ((below1 w5 _).mono B5.out.size)⟩
end Go.Proofs.YtkhmocbfkpbpfaaGreatDoor

/- Contract of mul's between: what of a domain lies between the least and the greatest product of two. -/
namespace Go.Proofs.YtkhmocbfkpbpfaaGreatDoor
open Go.RowKit Go.Sort

theorem run_min4 {P : Program} (w : World) (ts : Array TypeId) (t : TypeId) (k : IntKind) (a b c d : Int) : (Builtin.min_ ts t #[.int k a, .int k b, .int k c, .int k d]).run P w = .ok (.int k (min4 a b c d)) w := by
  have e : ∀ x y : Int, (if y < x then y else x) = min x y := fun x y => by
    rw [Int.min_def]
    split <;> split <;> omega
  simp [Builtin.min_, Builtin.min2, e, min4]
theorem run_max4 {P : Program} (w : World) (ts : Array TypeId) (t : TypeId) (k : IntKind) (a b c d : Int) : (Builtin.max_ ts t #[.int k a, .int k b, .int k c, .int k d]).run P w = .ok (.int k (max4 a b c d)) w := by
  have e : ∀ x y : Int, (if y > x then y else x) = max x y := fun x y => by
    rw [Int.max_def]
    split <;> split <;> omega
  simp [Builtin.max_, Builtin.max2, e, max4]

set_option maxHeartbeats 4000000 in
set_option maxRecDepth 100000 in
theorem between_any (d1 d2 d3 : Dv) (A Bs C : List Int) (w : World) (h1 : IsDom w d1.val A) (h2 : IsDom w d2.val Bs) (h3 : IsDom w d3.val C) (hT : TabZ w) :
    Calls Tryz.prog 138 #[.agg #[.int .i64 d1.s, .slice d1.A d1.n d1.c, .int .i64 d1.z], .agg #[.int .i64 d2.s, .slice d2.A d2.n d2.c, .int .i64 d2.z], .agg #[.int .i64 d3.s, .slice d3.A d3.n d3.c, .int .i64 d3.z]] w
      fun e w' => (∃ d : Dv, e = .returned d.val ∧ IsDom w' d.val ((C.filter fun u => decide (lowP A Bs ≤ u)).filter fun u => decide (u ≤ highP A Bs))) ∧ Below w.heap.size w w' := by
  obtain ⟨w4, hw4⟩ : ∃ w4, (((w.alloc (.cells #[.int .i64 d1.s, .slice d1.A d1.n d1.c, .int .i64 d1.z] 53)).alloc (.cells #[.int .i64 d2.s, .slice d2.A d2.n d2.c, .int .i64 d2.z] 53)).alloc (.cells #[.int .i64 d3.s, .slice d3.A d3.n d3.c, .int .i64 d3.z] 53)).alloc (.cells #[.int .i64 0, .slice none 0 0, .int .i64 0] 53) = w4 := ⟨_, rfl⟩
  obtain ⟨wa, hwa⟩ : ∃ wa, w.alloc (.cells #[.int .i64 d1.s, .slice d1.A d1.n d1.c, .int .i64 d1.z] 53) = wa := ⟨_, rfl⟩
  obtain ⟨wb, hwb⟩ : ∃ wb, wa.alloc (.cells #[.int .i64 d2.s, .slice d2.A d2.n d2.c, .int .i64 d2.z] 53) = wb := ⟨_, rfl⟩
  obtain ⟨wc, hwc⟩ : ∃ wc, wb.alloc (.cells #[.int .i64 d3.s, .slice d3.A d3.n d3.c, .int .i64 d3.z] 53) = wc := ⟨_, rfl⟩
  have hwd := hw4
  rw [hwa, hwb, hwc] at hwd
  have sa : wa.heap.size = w.heap.size + 1 := by rw [← hwa]; simp
  have sb : wb.heap.size = w.heap.size + 1 + 1 := by rw [← hwb]; simp [sa]
  have sc : wc.heap.size = w.heap.size + 1 + 1 + 1 := by rw [← hwc]; simp [sb]
  have s4 : w4.heap.size = w.heap.size + 1 + 1 + 1 + 1 := by rw [← hwd]; simp [sc]
  have ba : Below w.heap.size w wa := hwa ▸ below1 w _
  have bb : Below wa.heap.size wa wb := hwb ▸ below1 wa _
  have bc : Below wb.heap.size wb wc := hwc ▸ below1 wb _
  have bd : Below wc.heap.size wc w4 := hwd ▸ below1 wc _
  have n1 : wa.heap[w.heap.size]? = some (.cells #[.int .i64 d1.s, .slice d1.A d1.n d1.c, .int .i64 d1.z] 53 (0, 0)) := hwa ▸ heap_new w _
  have n2 : wb.heap[w.heap.size + 1]? = some (.cells #[.int .i64 d2.s, .slice d2.A d2.n d2.c, .int .i64 d2.z] 53 (0, 0)) := by rw [← sa, ← hwb]; exact heap_new wa _
  have n3 : wc.heap[w.heap.size + 1 + 1]? = some (.cells #[.int .i64 d3.s, .slice d3.A d3.n d3.c, .int .i64 d3.z] 53 (0, 0)) := by rw [← sb, ← hwc]; exact heap_new wb _
  have n4 : w4.heap[w.heap.size + 1 + 1 + 1]? = some (.cells #[.int .i64 0, .slice none 0 0, .int .i64 0] 53 (0, 0)) := by rw [← sc, ← hwd]; exact heap_new wc _
  have b24 : Below wb.heap.size wb w4 := bc.trans (bd.mono bc.size)
  have b14 : Below wa.heap.size wa w4 := bb.trans (b24.mono bb.size)
  have b4 : Below w.heap.size w w4 := ba.trans (b14.mono ba.size)
  have HN1 : Hid (w4.heap[w.heap.size]? = some (.cells #[.int .i64 d1.s, .slice d1.A d1.n d1.c, .int .i64 d1.z] 53 (0, 0))) := Lib.hid ((b14.block _ (by omega)).trans n1)
  have HN2 : Hid (w4.heap[w.heap.size + 1]? = some (.cells #[.int .i64 d2.s, .slice d2.A d2.n d2.c, .int .i64 d2.z] 53 (0, 0))) := Lib.hid ((b24.block _ (by omega)).trans n2)
  have HN3 : Hid (w4.heap[w.heap.size + 1 + 1]? = some (.cells #[.int .i64 d3.s, .slice d3.A d3.n d3.c, .int .i64 d3.z] 53 (0, 0))) := Lib.hid ((bd.block _ (by omega)).trans n3)
  have HN4 := Lib.hid n4
  have B4 := Lib.hid b4
  have S4 := Lib.hid s4
  have HD1 := Lib.hid (h1.below b4)
  have HD2 := Lib.hid (h2.below b4)
  have HD3 := Lib.hid (h3.below b4)
  have HT4 := Lib.hid (hT.below b4)
  have HT := Lib.hid hT
  have B0 := Lib.hid b4
  have la := head_lim h1.lim
  have lb := last_lim h1.lim
  have lc := head_lim h2.lim
  have ld := last_lim h2.lim
  obtain ⟨am, ham⟩ : ∃ v, v = A.head?.getD 0 := ⟨_, rfl⟩
  obtain ⟨ax, hax⟩ : ∃ v, v = A.getLast?.getD 0 := ⟨_, rfl⟩
  obtain ⟨bm, hbm⟩ : ∃ v, v = Bs.head?.getD 0 := ⟨_, rfl⟩
  obtain ⟨bx, hbx⟩ : ∃ v, v = Bs.getLast?.getD 0 := ⟨_, rfl⟩
  rw [← ham] at la; rw [← hax] at lb; rw [← hbm] at lc; rw [← hbx] at ld
  have GA : Hid (∀ W, Below w4.heap.size w4 W → Calls Tryz.prog 176 #[.agg #[.int .i64 d1.s, .slice d1.A d1.n d1.c, .int .i64 d1.z]] W fun e w' => e = .returned (.int .i64 am) ∧ Below W.heap.size W w') := Lib.hid (fun W hW => by have := D.min_dom d1.val A W (HD1.out.below hW) (HT4.out.below hW); rw [← ham] at this; exact this)
  have GB : Hid (∀ W, Below w4.heap.size w4 W → Calls Tryz.prog 98 #[.agg #[.int .i64 d1.s, .slice d1.A d1.n d1.c, .int .i64 d1.z]] W fun e w' => e = .returned (.int .i64 ax) ∧ Below W.heap.size W w') := Lib.hid (fun W hW => by have := D.max_dom d1.val A W (HD1.out.below hW); rw [← hax] at this; exact this)
  have GC : Hid (∀ W, Below w4.heap.size w4 W → Calls Tryz.prog 176 #[.agg #[.int .i64 d2.s, .slice d2.A d2.n d2.c, .int .i64 d2.z]] W fun e w' => e = .returned (.int .i64 bm) ∧ Below W.heap.size W w') := Lib.hid (fun W hW => by have := D.min_dom d2.val Bs W (HD2.out.below hW) (HT4.out.below hW); rw [← hbm] at this; exact this)
  have GD : Hid (∀ W, Below w4.heap.size w4 W → Calls Tryz.prog 98 #[.agg #[.int .i64 d2.s, .slice d2.A d2.n d2.c, .int .i64 d2.z]] W fun e w' => e = .returned (.int .i64 bx) ∧ Below W.heap.size W w') := Lib.hid (fun W hW => by have := D.max_dom d2.val Bs W (HD2.out.below hW); rw [← hbx] at this; exact this)
  have CA := Lib.hid (in_regrown' (w := w4) GA.out)
  have CC := Lib.hid (in_regrown' (w := w4) GC.out)
  have CD := Lib.hid (in_regrown' (w := w4) GD.out)
  have HLO : Hid (lowP A Bs = min4 (am * bm) (am * bx) (ax * bm) (ax * bx)) := Lib.hid (by unfold lowP; rw [ham, hax, hbm, hbx])
  have HHI : Hid (highP A Bs = max4 (am * bm) (am * bx) (ax * bm) (ax * bx)) := Lib.hid (by unfold highP; rw [ham, hax, hbm, hbx])
  have p1 := prod_lim la lc
  have p2 := prod_lim la ld
  have p3 := prod_lim lb lc
  have p4 := prod_lim lb ld
  have w1 : IntKind.i64.wrap (am * bm) = am * bm := IntWalk.i64_in _ (by omega)
  have w2 : IntKind.i64.wrap (am * bx) = am * bx := IntWalk.i64_in _ (by omega)
  have w3 : IntKind.i64.wrap (ax * bm) = ax * bm := IntWalk.i64_in _ (by omega)
  have w5 : IntKind.i64.wrap (ax * bx) = ax * bx := IntWalk.i64_in _ (by omega)
  have e0 := cell_regrown (box_cell HN1.out (j := 0) (x := .int .i64 d1.s) rfl)
  have e1 := cell_regrown (box_cell HN1.out (j := 1) (x := .slice d1.A d1.n d1.c) rfl)
  have e2 := cell_regrown (box_cell HN1.out (j := 2) (x := .int .i64 d1.z) rfl)
  have f0 := cell_regrown (box_cell HN2.out (j := 0) (x := .int .i64 d2.s) rfl)
  have f1 := cell_regrown (box_cell HN2.out (j := 1) (x := .slice d2.A d2.n d2.c) rfl)
  have f2 := cell_regrown (box_cell HN2.out (j := 2) (x := .int .i64 d2.z) rfl)
  clear hwa hwb hwc hwd sa sb sc s4 ba bb bc bd n1 n2 n3 n4 b24 b14 b4 h1 h2 h3 hT la lb lc ld ham hax hbm hbx p1 p2 p3 p4
  go_enter Tryz.func138, Tryz.ntmps138
  go_upto_region 1 with fail
  clear hw4
  refine wp_region_quiet_below (by kernel_rfl) (by kernel_rfl) ?_
  repeat (first | go_big_quiet_step (first | (go_at_call 176; with_reducible exact CA.out _ _) | (go_at_call 176; with_reducible exact CC.out _ _) | (go_at_call 98; with_reducible exact CD.out _ _)) | quiet_step (fail))
  refine wpQuiet_nil ?_
  intro _ hw'
  obtain ⟨⟨dq, osq⟩, hw''⟩ := hw'
  subst hw''
  have b45 := below_regrown w4 dq osq
  generalize grow (redrawn w4 dq) osq = w5 at *
  have B45 := Lib.hid b45
  have CA5 := Lib.hid (in_regrown' (w := w5) (fun W hW => GA.out W (B45.out.trans (hW.mono B45.out.size))))
  have CB5 := Lib.hid (in_regrown' (w := w5) (fun W hW => GB.out W (B45.out.trans (hW.mono B45.out.size))))
  have CC5 := Lib.hid (in_regrown' (w := w5) (fun W hW => GC.out W (B45.out.trans (hW.mono B45.out.size))))
  have CD5 := Lib.hid (in_regrown' (w := w5) (fun W hW => GD.out W (B45.out.trans (hW.mono B45.out.size))))
  have K1 := (b45.block _ (Array.getElem?_eq_some_iff.1 HN1.out).1).trans HN1.out
  have K2 := (b45.block _ (Array.getElem?_eq_some_iff.1 HN2.out).1).trans HN2.out
  clear e0 e1 e2 f0 f1 f2 CA CC CD
  have e0 := cell_regrown (box_cell K1 (j := 0) (x := .int .i64 d1.s) rfl)
  have e1 := cell_regrown (box_cell K1 (j := 1) (x := .slice d1.A d1.n d1.c) rfl)
  have e2 := cell_regrown (box_cell K1 (j := 2) (x := .int .i64 d1.z) rfl)
  have f0 := cell_regrown (box_cell K2 (j := 0) (x := .int .i64 d2.s) rfl)
  have f1 := cell_regrown (box_cell K2 (j := 1) (x := .slice d2.A d2.n d2.c) rfl)
  have f2 := cell_regrown (box_cell K2 (j := 2) (x := .int .i64 d2.z) rfl)
  clear K1 K2 b45 GA GB GC GD
  go_upto_region 2 with fail
  refine wp_region_quiet_below (by kernel_rfl) (by kernel_rfl) ?_
  repeat (first | go_big_quiet_step (first | (go_at_call 176; with_reducible exact CA5.out _ _) | (go_at_call 176; with_reducible exact CC5.out _ _) | (go_at_call 98; with_reducible exact CB5.out _ _) | (go_at_call 98; with_reducible exact CD5.out _ _)) | quiet_step (fail))
  refine wpQuiet_nil ?_
  intro _ hw'
  obtain ⟨⟨dq, osq⟩, hw''⟩ := hw'
  subst hw''
  have b56 := below_regrown w5 dq osq
  generalize grow (redrawn w5 dq) osq = w6 at *
  have B6 := Lib.hid (B45.out.trans (b56.mono B45.out.size))
  have K3 := (B6.out.block _ (Array.getElem?_eq_some_iff.1 HN3.out).1).trans HN3.out
  have g0 := box_cell K3 (j := 0) (x := .int .i64 d3.s) rfl
  have g1 := box_cell K3 (j := 1) (x := .slice d3.A d3.n d3.c) rfl
  have g2 := box_cell K3 (j := 2) (x := .int .i64 d3.z) rfl
  have k0 := box_free K3 0
  have k1 := box_free K3 1
  have k2 := box_free K3 2
  have HK3 := Lib.hid K3
  have hmin : ∀ W : World, (Builtin.min_ #[3, 3, 3, 3] 3 #[.int .i64 (am * bm), .int .i64 (am * bx), .int .i64 (ax * bm), .int .i64 (ax * bx)]).run Tryz.prog W = .ok (.int .i64 (min4 (am * bm) (am * bx) (ax * bm) (ax * bx))) W := fun W => run_min4 W _ _ _ _ _ _ _
  have hmax : ∀ W : World, (Builtin.max_ #[3, 3, 3, 3] 3 #[.int .i64 (am * bm), .int .i64 (am * bx), .int .i64 (ax * bm), .int .i64 (ax * bx)]).run Tryz.prog W = .ok (.int .i64 (max4 (am * bm) (am * bx) (ax * bm) (ax * bx))) W := fun W => run_max4 W _ _ _ _ _ _ _
  have CL := D.least_dom d3.val C (lowP A Bs) w6 (HD3.out.below B6.out) (HT4.out.below B6.out)
  have HLQ : Hid (lowP A Bs = min4 (am * bm) (am * bx) (ax * bm) (ax * bx)) := HLO
  rw [HLO.out] at CL HLQ
  have CL := Lib.hid CL
  generalize min4 (am * bm) (am * bx) (ax * bm) (ax * bx) = lo at hmin HLO CL
  generalize max4 (am * bm) (am * bx) (ax * bm) (ax * bx) = hi at hmax HHI
  clear e0 e1 e2 f0 f1 f2 CA5 CB5 CC5 CD5 K3 b56 B45 HLQ
  go_wp2_with fail
  refine CL.out.mono ?_
  rintro e w7 ⟨d, rfl, hd, b7⟩
  obtain ⟨v7, rfl, hz7⟩ := Dv.of hd
  have HD7 := Lib.hid hd
  have B7 := Lib.hid (B6.out.trans (b7.mono B6.out.size))
  have j0 := (b7.cell (World.block_lt_of_cell? _ _ g0)).trans g0
  have j1 := (b7.cell (World.block_lt_of_cell? _ _ g1)).trans g1
  have j2 := (b7.cell (World.block_lt_of_cell? _ _ g2)).trans g2
  have HK7 := Lib.hid ((b7.block _ (Array.getElem?_eq_some_iff.1 HK3.out).1).trans HK3.out)
  clear g0 g1 g2 k0 k1 k2 CL hd b7 hz7 HK3 B6
  have k0 := box_free HK7.out 0
  have k1 := box_free HK7.out 1
  have k2 := box_free HK7.out 2
  go_upto_region 4 with fail
  obtain ⟨w8, hw8⟩ : ∃ w8, ((w7.setCell ⟨w.heap.size + 1 + 1, 0, none⟩ (.int .i64 v7.s)).setCell ⟨w.heap.size + 1 + 1, 1, none⟩ (.slice v7.A v7.n v7.c)).setCell ⟨w.heap.size + 1 + 1, 2, none⟩ (.int .i64 v7.z) = w8 := ⟨_, rfl⟩
  rw [hw8]
  have HD8 : Hid (IsDom w8 v7.val (C.filter fun u => decide (lo ≤ u))) := Lib.hid (hw8 ▸ HD7.out.put3 HK7.out (plain_int _ _ (by decide)) (plain_sl _ _ _) (plain_int _ _ (by decide)) _ _ _ (plain_int _ _ (by decide)) (plain_sl _ _ _))
  have B07 := B0.out.trans (B7.out.mono B0.out.size)
  have B8 : Hid (Below w.heap.size w w8) := Lib.hid (hw8 ▸ out_below B07 (w.heap.size + 1 + 1) (by omega) _ _ _)
  have HK8 : Hid (w8.heap[w.heap.size + 1 + 1]? = some (.cells #[.int .i64 v7.s, .slice v7.A v7.n v7.c, .int .i64 v7.z] 53 (0, 0))) := Lib.hid (hw8 ▸ put3_block HK7.out)
  have HR8 : Hid (w8.heap[w.heap.size + 1 + 1 + 1]? = some (.cells #[.int .i64 0, .slice none 0 0, .int .i64 0] 53 (0, 0))) := Lib.hid (hw8 ▸ (put3_far (by omega)).trans ((B7.out.block _ (by rw [S4.out]; omega)).trans HN4.out))
  have CM := Lib.hid (D.most_dom v7.val (C.filter fun u => decide (lo ≤ u)) hi w8 HD8.out (HT.out.below B8.out))
  have g0 := box_cell HK8.out (j := 0) (x := .int .i64 v7.s) rfl
  have g1 := box_cell HK8.out (j := 1) (x := .slice v7.A v7.n v7.c) rfl
  have g2 := box_cell HK8.out (j := 2) (x := .int .i64 v7.z) rfl
  clear hw8 HD7 HK7 j0 j1 j2 k0 k1 k2 B7 B07 hmin
  go_wp2_with fail
  refine CM.out.mono ?_
  rintro e w9 ⟨d, rfl, hd, b9⟩
  obtain ⟨v9, rfl, hz9⟩ := Dv.of hd
  have HD9 := Lib.hid hd
  have B9 := Lib.hid (B8.out.trans (b9.mono B8.out.size))
  have HK9 := Lib.hid ((b9.block _ (Array.getElem?_eq_some_iff.1 HK8.out).1).trans HK8.out)
  have HR9 := Lib.hid ((b9.block _ (Array.getElem?_eq_some_iff.1 HR8.out).1).trans HR8.out)
  have j0 := box_cell HK9.out (j := 0) (x := .int .i64 v7.s) rfl
  have j1 := box_cell HK9.out (j := 1) (x := .slice v7.A v7.n v7.c) rfl
  have j2 := box_cell HK9.out (j := 2) (x := .int .i64 v7.z) rfl
  have k0 := box_free HK9.out 0
  have k1 := box_free HK9.out 1
  have k2 := box_free HK9.out 2
  clear CM g0 g1 g2 hd b9 hz9 HD8 HK8 HR8 B8 hmax
  go_upto_region 5 with fail
  obtain ⟨w10, hw10⟩ : ∃ w10, ((w9.setCell ⟨w.heap.size + 1 + 1, 0, none⟩ (.int .i64 v9.s)).setCell ⟨w.heap.size + 1 + 1, 1, none⟩ (.slice v9.A v9.n v9.c)).setCell ⟨w.heap.size + 1 + 1, 2, none⟩ (.int .i64 v9.z) = w10 := ⟨_, rfl⟩
  rw [hw10]
  have HD10 := Lib.hid (hw10 ▸ HD9.out.put3 HK9.out (plain_int _ _ (by decide)) (plain_sl _ _ _) (plain_int _ _ (by decide)) (.int .i64 v9.s) (.slice v9.A v9.n v9.c) (.int .i64 v9.z) (plain_int _ _ (by decide)) (plain_sl _ _ _))
  have B10 : Hid (Below w.heap.size w w10) := Lib.hid (hw10 ▸ out_below B9.out (w.heap.size + 1 + 1) (by omega) _ _ _)
  have HK10 : Hid (w10.heap[w.heap.size + 1 + 1]? = some (.cells #[.int .i64 v9.s, .slice v9.A v9.n v9.c, .int .i64 v9.z] 53 (0, 0))) := Lib.hid (hw10 ▸ put3_block HK9.out)
  have HR10 : Hid (w10.heap[w.heap.size + 1 + 1 + 1]? = some (.cells #[.int .i64 0, .slice none 0 0, .int .i64 0] 53 (0, 0))) := Lib.hid (hw10 ▸ (put3_far (by omega)).trans HR9.out)
  have g0 := box_cell HK10.out (j := 0) (x := .int .i64 v9.s) rfl
  have g1 := box_cell HK10.out (j := 1) (x := .slice v9.A v9.n v9.c) rfl
  have g2 := box_cell HK10.out (j := 2) (x := .int .i64 v9.z) rfl
  clear hw10 HD9 HK9 HR9 j0 j1 j2 k0 k1 k2 B9
  have e0 := box_cell HR10.out (j := 0) (x := .int .i64 0) rfl
  have e1 := box_cell HR10.out (j := 1) (x := .slice none 0 0) rfl
  have e2 := box_cell HR10.out (j := 2) (x := .int .i64 0) rfl
  have k0 := box_free HR10.out 0
  have k1 := box_free HR10.out 1
  have k2 := box_free HR10.out 2
  go_wp2_with fail
  obtain ⟨q0, q1, q2⟩ := out_cells w10 (w.heap.size + 1 + 1 + 1) _ _ _ (.int .i64 v9.s) (.slice v9.A v9.n v9.c) (.int .i64 v9.z) e0 e1 e2
  refine bodyPost_ret (v := .agg #[.int .i64 v9.s, .slice v9.A v9.n v9.c, .int .i64 v9.z]) (by simp [results, Tryz.results138, go_sem, q0, q1, q2]) rfl ⟨⟨v9, rfl, ?_⟩, ?_⟩
  · rw [HLO.out, HHI.out]
    exact HD10.out.put3 HR10.out (plain_int _ _ (by decide)) (plain_sl _ _ _) (plain_int _ _ (by decide)) _ _ _ (plain_int _ _ (by decide)) (plain_sl _ _ _)
  · exact out_below B10.out _ (by omega) _ _ _
end Go.Proofs.YtkhmocbfkpbpfaaGreatDoor
