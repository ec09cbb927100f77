/- The walk of ParseMany. -/
import Derived.Test.YtmamgaaeeonfmaaGreatDoorPblankw
import Derived.Test.YtmamgaaeeonfmaaGreatDoorPmanym
import Derived.Laws.BytesArg
namespace Go.Proofs.YtmamgaaeeonfmaaGreatDoor
open Go.RowKit Go.Sort Go.Maps

/-- Parse of a text of which all is known. -/
theorem parse_told {m : ModL} {p : Nat} {er : Int} {bs : Bs} (hp : parseA bs = (m, p, er)) (S : ByteArray) (hS : bl S = bs) (hl : S.size ≤ 1000000) (W : World) (hE : EntIn W) (hT : TabZ W) : Calls Tryz.prog 6 #[.string S] W fun e w' => ∃ v : ModV, e = .returned (.tuple #[v.val m.goal m.obj, .int .i64 (p : Nat), .int .i64 er]) ∧ ModIn w' v m ∧ Below W.heap.size W w' := by
  refine (parse_any S W (by omega) hE hT).mono ?_
  rw [hS, hp]
  rintro e w' ⟨v, h1, h2, h3⟩
  exact ⟨v, h1, h2, h3⟩
theorem two_bytes (W : World) (a b : Int) : (convert 38 9 (.slice (some ⟨W.heap.size, 0, none⟩) 2 2)).run Tryz.prog (W.alloc (.cells #[.int .u8 a, .int .u8 b] 5)) = .ok (.string ⟨#[UInt8.ofNat a.toNat, UInt8.ofNat b.toNat]⟩) (W.alloc (.cells #[.int .u8 a, .int .u8 b] 5)) :=
  run_convert_bytes_arg (P := Tryz.prog) (W.alloc (.cells #[.int .u8 a, .int .u8 b] 5)) 38 5 Tryz.underlying38 Tryz.underlying5 W.heap.size 0 2 2 [a, b] rfl (fun i hi => by
    have h2 : i = 0 ∨ i = 1 := by omega
    rcases h2 with rfl | rfl <;> simp) 9 Tryz.underlying9

set_option maxHeartbeats 4000000 in
set_option maxRecDepth 100000 in
theorem many_walk (v c : Nat) (w : World) (hv : v < 65536) (hc : c < 65536) (hE : EntIn w) (hT : TabZ w) : Calls Tryz.prog 5 #[.int .u16 (v : Nat), .int .u16 (c : Nat)] w fun e w' => e = .returned (.bool true) ∧ Below w.heap.size w w' := by
  have C1 := Lib.hid parse_any
  have C2 := Lib.hid parse_wakes
  have HE := Lib.hid hE
  have HT := Lib.hid hT
  clear hE hT
  go_enter Tryz.func5, Tryz.ntmps5
  go_wp2_with fail
  obtain ⟨n, hn, hn2⟩ : ∃ n : Nat, (v : Int) % 260 = (n : Int) ∧ n < 260 := ⟨v % 260, by omega, Nat.mod_lt _ (by decide)⟩
  obtain ⟨k, hk, hk2⟩ : ∃ k : Nat, (c : Int) % 1030 = (k : Int) ∧ k < 1030 := ⟨c % 1030, by omega, Nat.mod_lt _ (by decide)⟩
  rw [hn, hk]
  clear hn hk hv hc
  go_loopw [7, 19] (fun sv i wr => ∃ j : Nat, j ≤ n ∧ i = .int .i64 (j : Nat) ∧ (∃ S : ByteArray, sv = .string S ∧ Hid (bl S = vsT 0 j)) ∧ Below w.heap.size w wr) (fun _ i _ => n - (intOf i).toNat)
  case atStart => exact ⟨0, by omega, rfl, ⟨_, rfl, Lib.hid rfl⟩, Below.refl _ _⟩
  case round =>
    obtain ⟨j, hj, rfl, ⟨S, rfl, HS⟩, hbr⟩ := hrel
    have HBR := Lib.hid hbr
    have HSZ : S.size ≤ 4000 := by
      rw [← bl_len, HS.out, vsT_len]
      omega
    clear hbr
    by_cases hlt : j < n
    · have hcv := two_bytes wr (97 + (j : Int) / 16) (97 + (j : Int) % 16)
      have hA : UInt8.ofNat (97 + (j : Int) / 16).toNat = ltA j := by unfold ltA; congr 1
      have hB : UInt8.ofNat (97 + (j : Int) % 16).toNat = ltB j := by unfold ltB; congr 1
      rw [hA, hB] at hcv
      clear hA hB
      have hbl : bl (⟨#[118, 97, 114, 32, 49, 46, 46, 50, 58, 32, 120]⟩ ++ ⟨#[ltA j, ltB j]⟩ ++ ⟨#[59]⟩) = vtx j := by
        rw [bl_append, bl_append]
        rfl
      have HBL := Lib.hid hbl
      have hsz : (⟨#[ltA j, ltB j]⟩ : ByteArray).size = 2 := rfl
      generalize (⟨#[ltA j, ltB j]⟩ : ByteArray) = NS at hcv HBL hsz
      clear hbl
      go_wp2_with fail
      go_roundw
      case rel => exact ⟨j + 1, by omega, by go_num, ⟨_, rfl, Lib.hid (by rw [bl_append, HS.out, HBL.out, vsT_snoc, Nat.zero_add])⟩, HBR.out.trans ((below1 wr _).mono HBR.out.size)⟩
      case measure => simp [intOf]; omega
    · have hjn : j = n := by omega
      subst hjn
      obtain ⟨wo, rfl⟩ : ∃ wo, wo = wr := ⟨_, rfl⟩
      go_wp2_with fail
      go_loopw [7, 38] (fun sv i wx => ∃ q : Nat, q ≤ k ∧ i = .int .i64 (q : Nat) ∧ (∃ S2 : ByteArray, sv = .string S2 ∧ Hid (bl S2 = vsT 0 j ++ csT q)) ∧ Hid (wo = wx)) (fun _ i _ => k - (intOf i).toNat)
      case atStart => exact ⟨0, by omega, rfl, ⟨_, rfl, Lib.hid (by rw [HS.out]; simp [csT])⟩, Lib.hid rfl⟩
      case round =>
        obtain ⟨q, hq, rfl, ⟨S2, rfl, HS2⟩, HW⟩ := hrel
        obtain rfl := HW.out
        have HSZ2 : S2.size ≤ 40000 := by
          rw [← bl_len, HS2.out, List.length_append, vsT_len, csT_len]
          omega
        by_cases hlq : q < k
        · go_wp2_with fail
          go_roundw
          case rel =>
            refine ⟨q + 1, by omega, by go_num, ⟨_, rfl, Lib.hid (by rw [bl_append, HS2.out, csT_snoc, List.append_assoc]; rfl)⟩, ?_⟩
            first | exact Lib.hid rfl | exact Lib.hid trivial
          case measure => simp [intOf]; omega
        · have hqk : q = k := by omega
          subst hqk
          have hX : bl (S2 ++ ⟨#[115, 111, 108, 118, 101, 32, 115, 97, 116, 105, 115, 102, 121, 59]⟩) = manyT j q := by
            rw [bl_append, HS2.out, List.append_assoc]
            rfl
          have hXs : (S2 ++ ⟨#[115, 111, 108, 118, 101, 32, 115, 97, 116, 105, 115, 102, 121, 59]⟩).size ≤ 1000000 := by
            rw [← bl_len, hX, manyT_len]
            omega
          have HX := Lib.hid hX
          have HXS := Lib.hid hXs
          clear hX hXs HS2 HS hlq hq HW hlt hj HSZ
          by_cases a1 : 256 < j
          · have CP := Lib.hid (parse_told (many_vars (n := j) (k := q) (by omega) (by omega) a1))
            go_wp2_with fail
            refine (CP.out _ HX.out HXS.out _ (HE.out.below HBR.out) (HT.out.below HBR.out)).mono ?_
            rintro e w1 ⟨⟨⟨nA, nn, nc⟩, ⟨dA, dn, dc⟩, ⟨cA, cn, cc⟩⟩, rfl, m1, b1⟩
            have B1 := Lib.hid (HBR.out.trans ((b1.trans ((below1 w1 (modO ⟨⟨nA, nn, nc⟩, ⟨dA, dn, dc⟩, ⟨cA, cn, cc⟩⟩ noMod)).mono b1.size)).mono HBR.out.size))
            clear b1 m1 CP
            go_wp2_with fail
            refine (C2.out _ (HE.out.below B1.out) (HT.out.below B1.out)).mono ?_
            rintro e w2 ⟨rfl, b2⟩
            have B2 := Lib.hid (B1.out.trans (b2.mono B1.out.size))
            clear b2 B1
            go_wp2_with fail
            go_ret
            exact ⟨rfl, B2.out⟩
          · by_cases a2 : j = 0 ∧ 0 < q
            · obtain ⟨rfl, a3⟩ := a2
              have CP := Lib.hid (parse_told (many_none (k := q) (by omega) a3))
              go_wp2_with fail
              refine (CP.out _ HX.out HXS.out _ (HE.out.below HBR.out) (HT.out.below HBR.out)).mono ?_
              rintro e w1 ⟨⟨⟨nA, nn, nc⟩, ⟨dA, dn, dc⟩, ⟨cA, cn, cc⟩⟩, rfl, m1, b1⟩
              have B1 := Lib.hid (HBR.out.trans ((b1.trans ((below1 w1 (modO ⟨⟨nA, nn, nc⟩, ⟨dA, dn, dc⟩, ⟨cA, cn, cc⟩⟩ noMod)).mono b1.size)).mono HBR.out.size))
              clear b1 m1 CP
              go_wp2_with fail
              refine (C2.out _ (HE.out.below B1.out) (HT.out.below B1.out)).mono ?_
              rintro e w2 ⟨rfl, b2⟩
              have B2 := Lib.hid (B1.out.trans (b2.mono B1.out.size))
              clear b2 B1
              go_wp2_with fail
              go_ret
              exact ⟨rfl, B2.out⟩
            · by_cases j0 : j = 0
              · have q0 : q = 0 := by omega
                subst j0 q0
                clear a1 a2
                have CP := Lib.hid (parse_told (many_all (n := 0) (k := 0) (by omega) (by omega) (by omega)))
                go_wp2_with fail
                refine (CP.out _ HX.out HXS.out _ (HE.out.below HBR.out) (HT.out.below HBR.out)).mono ?_
                rintro e w1 ⟨⟨⟨nA, nn, nc⟩, ⟨dA, dn, dc⟩, ⟨cA, cn, cc⟩⟩, rfl, m1, b1⟩
                have X1 := Lib.hid (Boxed.new m1)
                have hnn : Hid (nn = (mvc 0 0).names.length) := Lib.hid m1.n.len
                have hcn : Hid (cn = (mvc 0 0).cons.length) := Lib.hid m1.c.len
                have B1 := Lib.hid (HBR.out.trans ((b1.trans ((below1 w1 (modO ⟨⟨nA, nn, nc⟩, ⟨dA, dn, dc⟩, ⟨cA, cn, cc⟩⟩ (mvc 0 0))).mono b1.size)).mono HBR.out.size))
                clear b1 m1 CP
                go_wp2_with fail
                refine (C2.out _ (HE.out.below B1.out) (HT.out.below B1.out)).mono ?_
                rintro e w2 ⟨rfl, b2⟩
                have X2 := Lib.hid (X1.out.below b2)
                have B2 := Lib.hid (B1.out.trans (b2.mono B1.out.size))
                clear b2 B1 X1
                have x0 : w2.cell? ⟨w1.heap.size, 0, none⟩ = some (.slice nA nn nc) := X2.out.c0
                have x2 : w2.cell? ⟨w1.heap.size, 2, none⟩ = some (.slice cA cn cc) := X2.out.c2
                have hn' : nn = 0 := by rw [hnn.out]; simp [mvc]
                have hc' : cn = 0 := by rw [hcn.out]; simp [mvc]
                clear hnn hcn
                subst hn' hc'
                go_wp2_with fail
                go_ret
                exact ⟨rfl, B2.out⟩
              · have j1 : 1 ≤ j := by omega
                by_cases a4 : 1024 < q
                · have hmc := many_cons (n := j) (k := q) (by omega) (by omega) (by omega) a4
                  obtain ⟨P, hP⟩ : ∃ P : Nat, 14 * j + 26624 = P := ⟨_, rfl⟩
                  rw [hP] at hmc
                  have CP := Lib.hid (parse_told hmc)
                  have heq : ((P : Int) == 14 * (j : Int) + 26624) = true := by
                    simp only [beq_iff_eq]
                    omega
                  clear hP hmc
                  go_wp2_with fail
                  refine (CP.out _ HX.out HXS.out _ (HE.out.below HBR.out) (HT.out.below HBR.out)).mono ?_
                  rintro e w1 ⟨⟨⟨nA, nn, nc⟩, ⟨dA, dn, dc⟩, ⟨cA, cn, cc⟩⟩, rfl, m1, b1⟩
                  have X1 := Lib.hid (Boxed.new m1)
                  have hnn : Hid (nn = noMod.names.length) := Lib.hid m1.n.len
                  have hcn : Hid (cn = noMod.cons.length) := Lib.hid m1.c.len
                  have B1 := Lib.hid (HBR.out.trans ((b1.trans ((below1 w1 (modO ⟨⟨nA, nn, nc⟩, ⟨dA, dn, dc⟩, ⟨cA, cn, cc⟩⟩ noMod)).mono b1.size)).mono HBR.out.size))
                  clear b1 m1 CP
                  go_wp2_with fail
                  refine (C2.out _ (HE.out.below B1.out) (HT.out.below B1.out)).mono ?_
                  rintro e w2 ⟨rfl, b2⟩
                  have X2 := Lib.hid (X1.out.below b2)
                  have B2 := Lib.hid (B1.out.trans (b2.mono B1.out.size))
                  clear b2 B1 X1
                  go_wp2_with fail
                  go_ret
                  exact ⟨rfl, B2.out⟩
                · skip
                  have CP := Lib.hid (parse_told (many_all (n := j) (k := q) (by omega) (by omega) (by omega)))
                  go_wp2_with fail
                  refine (CP.out _ HX.out HXS.out _ (HE.out.below HBR.out) (HT.out.below HBR.out)).mono ?_
                  rintro e w1 ⟨⟨⟨nA, nn, nc⟩, ⟨dA, dn, dc⟩, ⟨cA, cn, cc⟩⟩, rfl, m1, b1⟩
                  have X1 := Lib.hid (Boxed.new m1)
                  have hnn : Hid (nn = (mvc j q).names.length) := Lib.hid m1.n.len
                  have hcn : Hid (cn = (mvc j q).cons.length) := Lib.hid m1.c.len
                  have B1 := Lib.hid (HBR.out.trans ((b1.trans ((below1 w1 (modO ⟨⟨nA, nn, nc⟩, ⟨dA, dn, dc⟩, ⟨cA, cn, cc⟩⟩ (mvc j q))).mono b1.size)).mono HBR.out.size))
                  clear b1 m1 CP
                  go_wp2_with fail
                  refine (C2.out _ (HE.out.below B1.out) (HT.out.below B1.out)).mono ?_
                  rintro e w2 ⟨rfl, b2⟩
                  have X2 := Lib.hid (X1.out.below b2)
                  have B2 := Lib.hid (B1.out.trans (b2.mono B1.out.size))
                  clear b2 B1 X1
                  have x0 : w2.cell? ⟨w1.heap.size, 0, none⟩ = some (.slice nA nn nc) := X2.out.c0
                  have x2 : w2.cell? ⟨w1.heap.size, 2, none⟩ = some (.slice cA cn cc) := X2.out.c2
                  have hn' : nn = j := by rw [hnn.out]; simp [mvc]
                  have hc' : cn = q := by rw [hcn.out]; simp [mvc]
                  clear hnn hcn
                  subst hn' hc'
                  go_wp2_with fail
                  go_ret
                  exact ⟨rfl, B2.out⟩
theorem u16_of {x : Int} (h : (Lit.int .u16 x).wf = true) : ∃ n : Nat, x = (n : Int) ∧ n < 65536 := by
  simp only [Lit.wf, Bool.and_eq_true, decide_eq_true_eq] at h
  have h1 : (IntKind.u16).min = 0 := by decide
  have h2 : (IntKind.u16).max = 65535 := by decide
  rw [h1, h2] at h
  exact ⟨x.toNat, by omega, by omega⟩
theorem many_walk' (v c : Int) (w : World) (hv : (Lit.int .u16 v).wf = true) (hc : (Lit.int .u16 c).wf = true) (hE : EntIn w) (hT : TabZ w) : Calls Tryz.prog 5 #[.int .u16 v, .int .u16 c] w fun e w' => e = .returned (.bool true) ∧ Below w.heap.size w w' := by
  obtain ⟨a, rfl, ha⟩ := u16_of hv
  obtain ⟨b, rfl, hb⟩ := u16_of hc
  exact many_walk a b w ha hb hE hT
end Go.Proofs.YtmamgaaeeonfmaaGreatDoor
