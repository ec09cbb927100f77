/- Contract: the document's Make: the constraint of plain data. Made by tools/genmake.py. -/
import Derived.Test.YtkhmocbfkpbpfaaGreatDoorMkr
import Derived.Deep.DeepCutAuto
import Derived.Deep.RegionWith
namespace Go.Proofs.YtkhmocbfkpbpfaaGreatDoor
open Go.RowKit Go.Sort

set_option maxHeartbeats 16000000 in
set_option maxRecDepth 100000 in
theorem make_full (zA zB zC : Sl) (la lb lc : List Int) (k K ch vars : Int) (w : World) (ha : IsNs .u8 w zA la) (hb : IsNs .u8 w zB lb) (hc : IsNs .i8 w zC lc) (ba : ∀ v ∈ la, 0 ≤ v ∧ v ≤ 255) (bb : ∀ v ∈ lb, 0 ≤ v ∧ v ≤ 255) (bc : ∀ v ∈ lc, -128 ≤ v ∧ v ≤ 127) (hk : 0 ≤ k ∧ k ≤ 255) (hK : -32768 ≤ K ∧ K ≤ 32767) (hch : 0 ≤ ch ∧ ch ≤ 255) (hv : 1 ≤ vars ∧ vars ≤ 1000000) :
    Calls Tryz.prog 29 #[smV zA zB zC k K ch, .int .i64 vars] w fun e w' => (∃ v : ConV, e = .returned (v.val (makeE la lb lc k K ch vars).kind (makeE la lb lc k K ch vars).K) ∧ ConIn w' v (makeE la lb lc k K ch vars) ∧ MkR (w.heap.size + 1 + 1 + 1) w' v (makeE la lb lc k K ch vars)) ∧ Below w.heap.size w w' := by
  have hkt : 0 ≤ k.tmod 23 ∧ k.tmod 23 < 23 := ⟨Int.tmod_nonneg _ hk.1, by have := tmod_in k 23 (by omega); omega⟩
  obtain ⟨kn, hkn⟩ : ∃ kn : Nat, (kn : Int) = 1 + k.tmod 23 := ⟨(1 + k.tmod 23).toNat, by omega⟩
  have w1 : IntKind.i64.wrap k = k := IntWalk.i64_in _ (by omega)
  have w2 : IntKind.i64.wrap (k.tmod 23) = k.tmod 23 := IntWalk.i64_in _ (by omega)
  have w3 : IntKind.i64.wrap (1 + k.tmod 23) = (kn : Int) := by rw [hkn]; exact IntWalk.i64_in _ (by omega)
  have w3' : IntKind.i64.wrap (k.tmod 23 + 1) = (kn : Int) := by rw [hkn, Int.add_comm]; exact IntWalk.i64_in _ (by omega)
  have hk24 : kn < 24 := by omega
  obtain ⟨sh, hsh⟩ : ∃ sh, sh = shapesL.getD kn [] := ⟨_, rfl⟩
  have hsl := shapes_short kn hk24
  rw [← hsh] at hsl
  have HCT := Lib.hid (count_small sh hsl)
  have HM0 := makeE_eq la lb lc k K ch vars kn sh hkn hsh
  have HV := Lib.hid hv
  have HA := Lib.hid ha
  have HB := Lib.hid hb
  have HC := Lib.hid hc
  have BA := Lib.hid ba
  have BB := Lib.hid bb
  have BC := Lib.hid bc
  have CH : Hid (∀ (c : UInt8) W, Calls Tryz.prog 73 #[.string ⟨sh.toArray⟩, .int .u8 ((c.toNat : Nat) : Int)] W fun e w' => e = .returned (.int .i64 ((sh.count c : Nat) : Int)) ∧ W = w') := Lib.hid (fun c W => by
    have := refHas_any ⟨sh.toArray⟩ c W (by simp [ByteArray.size]; omega)
    rwa [bl_mk] at this)
  have CH118 : Hid (∀ W, Calls Tryz.prog 73 #[.string ⟨sh.toArray⟩, .int .u8 118] W fun e w' => e = .returned (.int .i64 ((sh.count 118 : Nat) : Int)) ∧ W = w') := Lib.hid (fun W => CH.out 118 W)
  have CH119 : Hid (∀ W, Calls Tryz.prog 73 #[.string ⟨sh.toArray⟩, .int .u8 119] W fun e w' => e = .returned (.int .i64 ((sh.count 119 : Nat) : Int)) ∧ W = w') := Lib.hid (fun W => CH.out 119 W)
  have CH87 : Hid (∀ W, Calls Tryz.prog 73 #[.string ⟨sh.toArray⟩, .int .u8 87] W fun e w' => e = .returned (.int .i64 ((sh.count 87 : Nat) : Int)) ∧ W = w') := Lib.hid (fun W => CH.out 87 W)
  have CH99 : Hid (∀ W, Calls Tryz.prog 73 #[.string ⟨sh.toArray⟩, .int .u8 99] W fun e w' => e = .returned (.int .i64 ((sh.count 99 : Nat) : Int)) ∧ W = w') := Lib.hid (fun W => CH.out 99 W)
  have CH107 : Hid (∀ W, Calls Tryz.prog 73 #[.string ⟨sh.toArray⟩, .int .u8 107] W fun e w' => e = .returned (.int .i64 ((sh.count 107 : Nat) : Int)) ∧ W = w') := Lib.hid (fun W => CH.out 107 W)
  have CSH : Hid (∀ W, Calls Tryz.prog 72 #[] W fun e w' => (∃ ad c, e = .returned (.slice (some ad) 24 c) ∧ ad.block < w'.heap.size ∧ w'.cell? (ad.add kn) = some (.string ⟨sh.toArray⟩)) ∧ Below W.heap.size W w') := Lib.hid (fun W => (shapes_any W).mono fun e w' ⟨⟨x, e1, h⟩, b⟩ => by
    obtain ⟨A, n, c⟩ := x
    have hn : n = 24 := h.len
    subst hn
    obtain ⟨ad, eA, hb, hcl⟩ := h.lies (by simp)
    simp only at eA
    subst eA
    exact ⟨⟨ad, c, e1, hb, by rw [hcl kn hk24, hsh]; rfl⟩, b⟩)
  obtain ⟨wb, hwb⟩ : ∃ wb, mkBox w (smC zA zB zC k K ch) (kn : Int) = wb := ⟨_, rfl⟩
  have HMK : Hid (Mk w (smC zA zB zC k K ch) zeroC wb noV (bareC (kn : Int))) := Lib.hid (hwb ▸ mk_start w (smC zA zB zC k K ch) (kn : Int))
  have HWB := Lib.hid hwb
  obtain ⟨n0, hn0⟩ : ∃ n0, n0 = mkN0 la := ⟨_, rfl⟩
  have hn04 : 1 ≤ n0 ∧ n0 ≤ 4 := by rw [hn0]; exact mkN0_in la
  have HN0 := Lib.hid hn0
  have HLA := Lib.hid ha.len
  have hal : zA.n ≤ 9223372036854775807 := ha.big
  obtain ⟨n, hn⟩ : ∃ n, n = (if 0 < sh.count 118 then sh.count 118 else n0) := ⟨_, rfl⟩
  have HN := Lib.hid hn
  have hn4 : 1 ≤ n ∧ n ≤ 1000 := by
    have := HCT.out 118
    rw [hn]
    split <;> omega
  generalize makeE la lb lc k K ch vars = RES at HM0 ⊢
  rw [← hn0, ← hn] at HM0
  have HRES := Lib.hid HM0
  have HKK := Lib.hid hK
  have HCC := Lib.hid hch
  clear ha hb hc ba bb bc hv hwb hn hn0 HM0 hsh hsl hkn CH hk hkt hK hch
  go_enter Tryz.func29, Tryz.ntmps29
  go_upto_region 2 with fail
  change Code.wp _ _ _ _ (mkBox w (smC zA zB zC k K ch) (kn : Int))
  rw [HWB.out]
  clear HWB w1 w2 w3 w3'
  have g0 : wb.drew.cell? ⟨w.heap.size + 1 + 1, 0, none⟩ = some (.int .i64 (kn : Int)) := HMK.out.cells 0 rfl
  go_cut [6] (fun a wx => a = .string ⟨sh.toArray⟩ ∧ Hid (Mk w (smC zA zB zC k K ch) zeroC wx noV (bareC (kn : Int))))
  case first =>
    go_region_with (first
      | (go_at_call 72; refine (CSH.out _).mono ?_; rintro e w1 ⟨⟨ad, cx, rfl, hadb, hck⟩, b1⟩; have H1 := Lib.hid (HMK.out.below (W' := w1) ((Below.refl _ _).drew.trans (b1.mono (by simp)))); have g1 := H1.out.cells 0 rfl; clear b1))
    all_goals
      go_wp2_with fail
      go_meet
      case rel => exact ⟨rfl, H1⟩
  case rest =>
    obtain ⟨rfl, H1⟩ := hcut
    clear HMK CSH g0

    obtain ⟨cw, hcw⟩ : ∃ q, q = sh.count 119 := ⟨_, rfl⟩
    obtain ⟨cW, hcW⟩ : ∃ q, q = sh.count 87 := ⟨_, rfl⟩
    obtain ⟨cc, hcc⟩ : ∃ q, q = sh.count 99 := ⟨_, rfl⟩
    obtain ⟨ck, hck⟩ : ∃ q, q = sh.count 107 := ⟨_, rfl⟩
    obtain ⟨cv, hcv⟩ : ∃ q, q = sh.count 118 := ⟨_, rfl⟩
    rw [← hcw] at CH119
    rw [← hcW] at CH87
    rw [← hcc] at CH99
    rw [← hck] at CH107
    rw [← hcv] at CH118 HN
    rw [← hcw, ← hcW, ← hcc, ← hck] at HRES
    have hcv4 : cv ≤ 4 := by rw [hcv]; exact HCT.out 118
    clear hcw hcW hcc hck hcv
    have SL := Lib.hid (slim_all (la := la) (lb := lb) (lc := lc) (K := K) (ch := ch) (vars := vars) (n := n) (cw := cw) (cW := cW) (cc := cc) (ck := ck) (kd := ((kn : Nat) : Int)) hn4.2)
    rw [← HRES.out] at SL
    obtain ⟨S1, e1⟩ : ∃ q, q = s1 la vars n (kn : Int) := ⟨_, rfl⟩
    obtain ⟨S2, e2⟩ : ∃ q, q = s2 lb vars cw S1 := ⟨_, rfl⟩
    obtain ⟨S3, e3⟩ : ∃ q, q = s3 lb vars cW n S2 := ⟨_, rfl⟩
    obtain ⟨S4, e4⟩ : ∃ q, q = s4 lc cc n S3 := ⟨_, rfl⟩
    obtain ⟨S5, e5⟩ : ∃ q, q = s5 lc S4 := ⟨_, rfl⟩
    obtain ⟨S6, e6⟩ : ∃ q, q = s6 K ck S5 := ⟨_, rfl⟩
    obtain ⟨S7, e7⟩ : ∃ q, q = s7 lc n S6 := ⟨_, rfl⟩
    obtain ⟨S8, e8⟩ : ∃ q, q = s8 lc K ch S7 := ⟨_, rfl⟩
    rw [← e1, ← e2, ← e3, ← e4, ← e5, ← e6, ← e7, ← e8] at HRES
    have K1 : Hid (S1.kind = (kn : Int)) := Lib.hid (by rw [e1]; rfl)
    have K2 : Hid (S2.kind = (kn : Int)) := Lib.hid (by rw [e2, s2_kind]; exact K1.out)
    have K3 : Hid (S3.kind = (kn : Int)) := Lib.hid (by rw [e3, s3_kind]; exact K2.out)
    have K4 : Hid (S4.kind = (kn : Int)) := Lib.hid (by rw [e4, s4_kind]; exact K3.out)
    have K5 : Hid (S5.kind = (kn : Int)) := Lib.hid (by rw [e5, s5_kind]; exact K4.out)
    have K6 : Hid (S6.kind = (kn : Int)) := Lib.hid (by rw [e6, s6_kind]; exact K5.out)
    have K7 : Hid (S7.kind = (kn : Int)) := Lib.hid (by rw [e7, s7_kind]; exact K6.out)
    have K8 : Hid (S8.kind = (kn : Int)) := Lib.hid (by rw [e8, s8_kind]; exact K7.out)
    have E1 := Lib.hid e1
    have E2 := Lib.hid e2
    have E3 := Lib.hid e3
    have E4 := Lib.hid e4
    have E5 := Lib.hid e5
    have E6 := Lib.hid e6
    have E7 := Lib.hid e7
    have E8 := Lib.hid e8
    have KSM : Hid (-12 < S6.K ∧ S6.K < 12) := Lib.hid (by rw [e6, e5, e4, e3, e2, e1]; exact k_small)
    clear e1 e2 e3 e4 e5 e6 e7 e8
    have z1 := H1.out.zcell 1 rfl
    have Z5 : Hid (zA.n = la.length) := HLA
    go_upto_if 28 with fail
    go_cut [7] (fun a wx => a = .int .i64 (if zA.n < 1 then 1 else (zA.n : Nat)) ∧ wc = wx)
    case first =>
      by_cases hq : zA.n < 1
      · as_aux_lemma =>
          have E : Hid ((if zA.n < 1 then (1 : Int) else (zA.n : Nat)) = 1) := Lib.hid (if_pos hq)
          go_wp2_with fail
          go_meet
          case rel => exact ⟨by rw [E.out], by first | rfl | trivial⟩
      · as_aux_lemma =>
          have E : Hid ((if zA.n < 1 then (1 : Int) else (zA.n : Nat)) = (zA.n : Nat)) := Lib.hid (if_neg hq)
          go_wp2_with fail
          go_meet
          case rel => exact ⟨by rw [E.out], by first | rfl | trivial⟩
    case rest =>
      obtain ⟨rfl, rfl⟩ := hcut
      obtain ⟨q1, hq1⟩ : ∃ q : Int, q = (if zA.n < 1 then (1 : Int) else (zA.n : Nat)) := ⟨_, rfl⟩
      rw [← hq1]
      have HQ : Hid ((4 < q1 → (n0 : Int) = 4) ∧ (¬ 4 < q1 → (n0 : Int) = q1)) := Lib.hid (by
        have h1 := HN0.out
        unfold mkN0 at h1
        rw [← Z5.out] at h1
        rw [hq1]
        refine ⟨fun h => ?_, fun h => ?_⟩ <;> split at h <;> (try split at h1) <;> (try split at h1) <;> omega)
      clear hq1
      go_upto_if 30 with fail
      go_cut [7] (fun a wx => a = .int .i64 ((n0 : Nat) : Int) ∧ wc = wx)
      case first =>
        by_cases hq : 4 < q1
        · as_aux_lemma =>
            have E := Lib.hid (HQ.out.1 hq)
            go_wp2_with fail
            go_meet
            case rel => exact ⟨by rw [E.out], by first | rfl | trivial⟩
        · as_aux_lemma =>
            have E := Lib.hid (HQ.out.2 hq)
            go_wp2_with fail
            go_meet
            case rel => exact ⟨by rw [E.out], by first | rfl | trivial⟩
      case rest =>
        obtain ⟨rfl, rfl⟩ := hcut
        clear HQ
        go_upto_if 33 with (first | (go_at_call 73; with_reducible refine (CH118.out _).mono ?_; rintro e wq ⟨rfl, rfl⟩))
        go_cut [7] (fun a wx => a = .int .i64 ((n : Nat) : Int) ∧ wc = wx)
        case first =>
          by_cases hq : 0 < cv
          · as_aux_lemma =>
              have E : Hid (n = cv) := Lib.hid (by rw [HN.out, if_pos hq])
              go_wp2_with (first | (go_at_call 73; with_reducible refine (CH118.out _).mono ?_; rintro e wq ⟨rfl, rfl⟩))
              go_meet
              case rel => exact ⟨by rw [E.out], by first | rfl | trivial⟩
          · as_aux_lemma =>
              have E : Hid (n = n0) := Lib.hid (by rw [HN.out, if_neg hq])
              go_wp2_with fail
              go_meet
              case rel => exact ⟨by rw [E.out], by first | rfl | trivial⟩
        case rest =>
          obtain ⟨rfl, rfl⟩ := hcut
          clear HN HN0 CH118 hcv4 hn04
          have CP := Lib.hid (mkPlaces_any zA la n vars wc (HA.out.below H1.out.box.low) BA.out HV.out hn4.2)
          go_wp2_with fail
          refine CP.out.mono ?_
          rintro e w2 ⟨⟨y, rfl, hy⟩, b2⟩
          have H1' := H1.out.below b2
          have hy3 := hy.base (b' := w.heap.size + 1 + 1 + 1) H1.out.size
          have c2 := H1'.cells 1 rfl
          have f2 := H1'.free 1
          have H2 : Hid (Mk w (smC zA zB zC k K ch) zeroC (w2.setCell ⟨w.heap.size + 1 + 1, 1, none⟩ (.slice y.A y.n y.c)) { noV with a := y } S1) := Lib.hid (by rw [E1.out]; exact H1'.setA hy3)
          have HE : Hid (({ noV with a := y } : ConV).e = ⟨none, 0, 0⟩ ∧ ({ noV with a := y } : ConV).r = ⟨none, 0, 0⟩) := Lib.hid ⟨rfl, rfl⟩
          clear hy hy3 b2 H1' CP H1 z1 E1 Z5
          obtain ⟨vv, H, HE⟩ : ∃ vv, Hid (Mk w (smC zA zB zC k K ch) zeroC _ vv S1) ∧ Hid (vv.e = ⟨none, 0, 0⟩ ∧ vv.r = ⟨none, 0, 0⟩) := ⟨_, H2, HE⟩
          clear H2
          go_upto_if 44 with (first | (go_at_call 73; with_reducible refine (CH119.out _).mono ?_; rintro e wq ⟨rfl, rfl⟩))
          go_cut [] (fun wx => ∃ vv, Hid (Mk w (smC zA zB zC k K ch) zeroC wx vv S2) ∧ Hid (vv.e = ⟨none, 0, 0⟩ ∧ vv.r = ⟨none, 0, 0⟩))
          case first =>
            by_cases hq : 0 < cw
            · as_aux_lemma =>
                have E : Hid (S2 = { S1 with B := mkL (plcE lb vars) 1 }) := Lib.hid (by rw [E2.out]; unfold s2; rw [if_pos hq])
                have zz := H.out.zcell 2 rfl
                have CP := Lib.hid ((mkPlaces_any zB lb 1 vars _ (HB.out.below H.out.box.low) BB.out HV.out (by omega) : Calls Tryz.prog 74 #[.slice zB.A zB.n zB.c, .int .i64 1, .int .i64 vars] _ _))
                go_wp2_with fail
                refine CP.out.mono ?_
                rintro e w2 ⟨⟨y, rfl, hy⟩, b2⟩
                have H1' := H.out.below b2
                have hy3 := hy.base (b' := w.heap.size + 1 + 1 + 1) H.out.size
                have c2 := H1'.cells 2 rfl
                have f2 := H1'.free 2
                have HF := Lib.hid (H1'.setB hy3)
                clear hy hy3 b2 H1' CP zz
    
                go_wp2_with fail
                go_meet
                case rel => exact ⟨({ vv with b := y } : ConV), by rw [E.out]; exact HF, Lib.hid HE.out⟩
            · as_aux_lemma =>
                have E : Hid (S2 = S1) := Lib.hid (by rw [E2.out]; unfold s2; rw [if_neg hq])
                go_wp2_with fail
                go_meet
                case rel => exact ⟨vv, by rw [E.out]; exact H, Lib.hid HE.out⟩
          case rest =>
            obtain ⟨vv, H2, HE⟩ := hcut
            clear E2 CH119 K1
            obtain ⟨vv, H, HE⟩ : ∃ vv, Hid (Mk w (smC zA zB zC k K ch) zeroC _ vv S2) ∧ Hid (vv.e = ⟨none, 0, 0⟩ ∧ vv.r = ⟨none, 0, 0⟩) := ⟨_, H2, HE⟩
            clear H2
            go_upto_if 52 with (first | (go_at_call 73; with_reducible refine (CH87.out _).mono ?_; rintro e wq ⟨rfl, rfl⟩))
            go_cut [] (fun wx => ∃ vv, Hid (Mk w (smC zA zB zC k K ch) zeroC wx vv S3) ∧ Hid (vv.e = ⟨none, 0, 0⟩ ∧ vv.r = ⟨none, 0, 0⟩))
            case first =>
              by_cases hq : 0 < cW
              · as_aux_lemma =>
                  have E : Hid (S3 = { S2 with B := mkL (plcE lb vars) n }) := Lib.hid (by rw [E3.out]; unfold s3; rw [if_pos hq])
                  have zz := H.out.zcell 2 rfl
                  have CP := Lib.hid (mkPlaces_any zB lb n vars _ (HB.out.below H.out.box.low) BB.out HV.out hn4.2)
                  go_wp2_with fail
                  refine CP.out.mono ?_
                  rintro e w2 ⟨⟨y, rfl, hy⟩, b2⟩
                  have H1' := H.out.below b2
                  have hy3 := hy.base (b' := w.heap.size + 1 + 1 + 1) H.out.size
                  have c2 := H1'.cells 2 rfl
                  have f2 := H1'.free 2
                  have HF := Lib.hid (H1'.setB hy3)
                  clear hy hy3 b2 H1' CP zz
    
                  go_wp2_with fail
                  go_meet
                  case rel => exact ⟨({ vv with b := y } : ConV), by rw [E.out]; exact HF, Lib.hid HE.out⟩
              · as_aux_lemma =>
                  have E : Hid (S3 = S2) := Lib.hid (by rw [E3.out]; unfold s3; rw [if_neg hq])
                  go_wp2_with fail
                  go_meet
                  case rel => exact ⟨vv, by rw [E.out]; exact H, Lib.hid HE.out⟩
            case rest =>
              obtain ⟨vv, H2, HE⟩ := hcut
              clear E3 CH87 K2
              obtain ⟨vv, H, HE⟩ : ∃ vv, Hid (Mk w (smC zA zB zC k K ch) zeroC _ vv S3) ∧ Hid (vv.e = ⟨none, 0, 0⟩ ∧ vv.r = ⟨none, 0, 0⟩) := ⟨_, H2, HE⟩
              clear H2
              go_upto_if 61 with (first | (go_at_call 73; with_reducible refine (CH99.out _).mono ?_; rintro e wq ⟨rfl, rfl⟩))
              go_cut [] (fun wx => ∃ vv, Hid (Mk w (smC zA zB zC k K ch) zeroC wx vv S4) ∧ Hid (vv.e = ⟨none, 0, 0⟩ ∧ vv.r = ⟨none, 0, 0⟩))
              case first =>
                by_cases hq : 0 < cc
                · as_aux_lemma =>
                    have E : Hid (S4 = { S3 with C := mkL (numE lc 0 (-1) 5) n }) := Lib.hid (by rw [E4.out]; unfold s4; rw [if_pos hq])
                    have zz := H.out.zcell 3 rfl
                    have CP := Lib.hid (((mkNumbers_any zC lc 0 n (-1) 5 _ (HC.out.below H.out.box.low) BC.out (by omega) (by omega) (by omega)) : Calls Tryz.prog 75 #[.slice zC.A zC.n zC.c, .int .i64 0, .int .i64 (n : Nat), .int .i64 (-1), .int .i64 5] _ _))
                    go_wp2_with fail
                    refine CP.out.mono ?_
                    rintro e w2 ⟨⟨y, rfl, hy⟩, b2⟩
                    have H1' := H.out.below b2
                    have hy3 := hy.base (b' := w.heap.size + 1 + 1 + 1) H.out.size
                    have c2 := H1'.cells 3 rfl
                    have f2 := H1'.free 3
                    have HF := Lib.hid (H1'.setC hy3)
                    clear hy hy3 b2 H1' CP zz
    
                    go_wp2_with fail
                    go_meet
                    case rel => exact ⟨({ vv with c := y } : ConV), by rw [E.out]; exact HF, Lib.hid HE.out⟩
                · as_aux_lemma =>
                    have E : Hid (S4 = S3) := Lib.hid (by rw [E4.out]; unfold s4; rw [if_neg hq])
                    go_wp2_with fail
                    go_meet
                    case rel => exact ⟨vv, by rw [E.out]; exact H, Lib.hid HE.out⟩
              case rest =>
                obtain ⟨vv, H2, HE⟩ := hcut
                clear E4 CH99 K3
                obtain ⟨vv, H, HE⟩ : ∃ vv, Hid (Mk w (smC zA zB zC k K ch) zeroC _ vv S4) ∧ Hid (vv.e = ⟨none, 0, 0⟩ ∧ vv.r = ⟨none, 0, 0⟩) := ⟨_, H2, HE⟩
                clear H2
                have KK := K4
                have c0 := H.out.cells 0 rfl
                rw [KK.out] at c0
                go_upto_if 69 with fail
                go_cut [] (fun wx => ∃ vv, Hid (Mk w (smC zA zB zC k K ch) zeroC wx vv S5) ∧ Hid (vv.e = ⟨none, 0, 0⟩ ∧ vv.r = ⟨none, 0, 0⟩))
                case first =>
                  by_cases hq : ((kn : Nat) : Int) = 11
                  · as_aux_lemma =>
                      have hqb : (((kn : Nat) : Int) == 11) = true := by simpa using hq
                      have EQ := Lib.hid (fun (h : S4.kind = 11) => h)
                      have hkS : Hid (S4.kind = 11) := Lib.hid (by rw [KK.out]; exact hq)
                      clear hq EQ
                      have E : Hid (S5 = { S4 with C := mkL (numE lc 0 (-1) 5) (1 + lc.length % 5) }) := Lib.hid (by rw [E5.out]; unfold s5; rw [if_pos hkS.out])
                      have hcn := HC.out.len
                      have hcb := HC.out.big
                      obtain ⟨q5, hq5⟩ : ∃ q5, q5 = 1 + lc.length % 5 := ⟨_, rfl⟩
                      have wq1 : IntKind.i64.wrap (((zC.n : Nat) : Int) % 5) = ((zC.n : Nat) : Int) % 5 := IntWalk.i64_in _ (by omega)
                      have wq2 : IntKind.i64.wrap (1 + ((zC.n : Nat) : Int) % 5) = ((q5 : Nat) : Int) := by rw [hq5, ← hcn]; exact (IntWalk.i64_in _ (by omega)).trans (by omega)
                      have h5 : q5 ≤ 5 := by omega
                      rw [← hq5] at E
                      clear hcn hcb hq5
    
                      have zz := H.out.zcell 3 rfl
                      have CP := Lib.hid ((mkNumbers_any zC lc 0 q5 (-1) 5 _ (HC.out.below H.out.box.low) BC.out (by omega) (by omega) (by omega) : Calls Tryz.prog 75 #[.slice zC.A zC.n zC.c, .int .i64 0, .int .i64 (q5 : Nat), .int .i64 (-1), .int .i64 5] _ _))
                      go_wp2_with fail
                      refine CP.out.mono ?_
                      rintro e w2 ⟨⟨y, rfl, hy⟩, b2⟩
                      have H1' := H.out.below b2
                      have hy3 := hy.base (b' := w.heap.size + 1 + 1 + 1) H.out.size
                      have c2 := H1'.cells 3 rfl
                      have f2 := H1'.free 3
                      have HF := Lib.hid (H1'.setC hy3)
                      clear hy hy3 b2 H1' CP zz
    
                      go_wp2_with fail
                      go_meet
                      case rel => exact ⟨({ vv with c := y } : ConV), by rw [E.out]; exact HF, Lib.hid HE.out⟩
                  · as_aux_lemma =>
                      have hqb : (((kn : Nat) : Int) == 11) = false := by simpa using hq
                      have E : Hid (S5 = S4) := Lib.hid (by rw [E5.out]; unfold s5; rw [if_neg (by rw [KK.out]; exact hq)])
                      clear hq
                      go_wp2_with fail
                      go_meet
                      case rel => exact ⟨vv, by rw [E.out]; exact H, Lib.hid HE.out⟩
                case rest =>
                  obtain ⟨vv, H2, HE⟩ := hcut
                  clear c0 KK K4
                  obtain ⟨vv, H, HE⟩ : ∃ vv, Hid (Mk w (smC zA zB zC k K ch) zeroC _ vv S5) ∧ Hid (vv.e = ⟨none, 0, 0⟩ ∧ vv.r = ⟨none, 0, 0⟩) := ⟨_, H2, HE⟩
                  clear H2
                  go_upto_if 81 with (first | (go_at_call 73; with_reducible refine (CH107.out _).mono ?_; rintro e wq ⟨rfl, rfl⟩))
                  go_cut [] (fun wx => ∃ vv, Hid (Mk w (smC zA zB zC k K ch) zeroC wx vv S6) ∧ Hid (vv.e = ⟨none, 0, 0⟩ ∧ vv.r = ⟨none, 0, 0⟩))
                  case first =>
                    by_cases hq : 0 < ck
                    · as_aux_lemma =>
                        have E : Hid (S6 = { S5 with K := K.tmod 12 }) := Lib.hid (by rw [E6.out]; unfold s6; rw [if_pos hq])
                        have zz := H.out.zcell 4 rfl
                        have c6 := H.out.cells 6 rfl
                        have f6 := H.out.free 6
                        have HF := Lib.hid (H.out.setK (K.tmod 12))
                        have hKK := HKK.out
                        have hK12 := tmod_in K 12 (by omega)
                        have wk1 : IntKind.i64.wrap K = K := IntWalk.i64_in _ (by omega)
                        have wk2 : IntKind.i64.wrap (K.tmod 12) = K.tmod 12 := IntWalk.i64_in _ (by omega)
                        clear hKK hK12
    
                        go_wp2_with fail
                        go_meet
                        case rel => exact ⟨vv, by rw [E.out]; exact HF, Lib.hid HE.out⟩
                    · as_aux_lemma =>
                        have E : Hid (S6 = S5) := Lib.hid (by rw [E6.out]; unfold s6; rw [if_neg hq])
                        go_wp2_with fail
                        go_meet
                        case rel => exact ⟨vv, by rw [E.out]; exact H, Lib.hid HE.out⟩
                  case rest =>
                    obtain ⟨vv, H2, HE⟩ := hcut
                    clear E6 CH107 K5
                    have KB : Hid (-12 < S6.K ∧ S6.K < 12) := Lib.hid (KSM.out)
                    obtain ⟨vv, H, HE⟩ : ∃ vv, Hid (Mk w (smC zA zB zC k K ch) zeroC _ vv S6) ∧ Hid (vv.e = ⟨none, 0, 0⟩ ∧ vv.r = ⟨none, 0, 0⟩) := ⟨_, H2, HE⟩
                    clear H2
                    have KK := K6
                    have c0 := H.out.cells 0 rfl
                    rw [KK.out] at c0
                    go_upto_if 89 with fail
                    go_cut [] (fun wx => ∃ vv, Hid (Mk w (smC zA zB zC k K ch) zeroC wx vv S7) ∧ Hid (vv.e = ⟨none, 0, 0⟩ ∧ vv.r = ⟨none, 0, 0⟩))
                    case first =>
                      by_cases hq : ((kn : Nat) : Int) = 19
                      · as_aux_lemma =>
                          have hqb : (((kn : Nat) : Int) == 19) = true := by simpa using hq
                          have EQ := Lib.hid (fun (h : S6.kind = 19) => h)
                          have hkS : Hid (S6.kind = 19) := Lib.hid (by rw [KK.out]; exact hq)
                          clear hq EQ
                          have zz := H.out.zcell 3 rfl
                          have CP := Lib.hid (((mkNumbers_any zC lc 0 n (0) 4 _ (HC.out.below H.out.box.low) BC.out (by omega) (by omega) (by omega)) : Calls Tryz.prog 75 #[.slice zC.A zC.n zC.c, .int .i64 0, .int .i64 (n : Nat), .int .i64 0, .int .i64 4] _ _))
                          go_wp2_with fail
                          refine CP.out.mono ?_
                          rintro e w2 ⟨⟨y, rfl, hy⟩, b2⟩
                          have H1' := H.out.below b2
                          have hy3 := hy.base (b' := w.heap.size + 1 + 1 + 1) H.out.size
                          have c2 := H1'.cells 3 rfl
                          have f2 := H1'.free 3
                          have HF := Lib.hid (H1'.setC hy3)
                          clear hy hy3 b2 H1' CP zz
    
                          go_upto_region 23 with fail
                          generalize (w2.setCell ⟨w.heap.size + 1 + 1, 3, none⟩ (.slice y.A y.n y.c)) = W3 at *
                          obtain ⟨v3, hv3⟩ : ∃ v3, v3 = ({ vv with c := y } : ConV) := ⟨_, rfl⟩
                          have HE3 : Hid (v3.e = ⟨none, 0, 0⟩ ∧ v3.r = ⟨none, 0, 0⟩) := Lib.hid (by rw [hv3]; exact HE.out)
                          rw [← hv3] at HF
                          clear hv3 H HE c2 f2
    
                          have zz := HF.out.zcell 3 rfl
                          have CP := Lib.hid (((mkNumbers_any zC lc n n (0) 4 _ (HC.out.below HF.out.box.low) BC.out (by omega) (by omega) (by omega)) : Calls Tryz.prog 75 #[.slice zC.A zC.n zC.c, .int .i64 (n : Nat), .int .i64 (n : Nat), .int .i64 0, .int .i64 4] _ _))
                          go_wp2_with fail
                          refine CP.out.mono ?_
                          rintro e w4 ⟨⟨y4, rfl, hy⟩, b2⟩
                          have H1' := HF.out.below b2
                          have hy3 := hy.base (b' := w.heap.size + 1 + 1 + 1) HF.out.size
                          have c2 := H1'.cells 4 rfl
                          have f2 := H1'.free 4
                          have HF := Lib.hid (H1'.setD hy3)
                          clear hy hy3 b2 H1' CP zz
    
                          go_upto_region 24 with fail
                          generalize (w4.setCell ⟨w.heap.size + 1 + 1, 4, none⟩ (.slice y4.A y4.n y4.c)) = W5 at *
                          have c6 : W5.cell? ⟨w.heap.size + 1 + 1, 6, none⟩ = some (.int .i64 S6.K) := HF.out.cells 6 rfl
                          have f6 := HF.out.free 6
                          have wn : IntKind.i64.wrap (-S6.K) = -S6.K := by have := KB.out; exact IntWalk.i64_in _ (by omega)
                          have E : Hid (S7 = { S6 with C := mkL (numE lc 0 0 4) n, D := mkL (numE lc n 0 4) n, K := negI S6.K }) := Lib.hid (by rw [E7.out]; unfold s7; rw [if_pos hkS.out])
                          clear c2 f2
                          by_cases hn6 : S6.K < 0
                          · as_aux_lemma =>
                              have hnb : decide (S6.K < 0) = true := by simpa using hn6
                              have HK7 := Lib.hid (HF.out.setK (-S6.K))
                              have EN : Hid (negI S6.K = -S6.K) := Lib.hid (by unfold negI; rw [if_pos hn6])
                              clear hn6
                              go_wp2_with fail
                              go_meet
                              case rel => exact ⟨({ v3 with d := y4 } : ConV), by rw [E.out, EN.out]; exact HK7, Lib.hid HE3.out⟩
                          · as_aux_lemma =>
                              have hnb : decide (S6.K < 0) = false := by simpa using hn6
                              have EN : Hid (negI S6.K = S6.K) := Lib.hid (by unfold negI; rw [if_neg hn6])
                              clear hn6
                              go_wp2_with fail
                              go_meet
                              case rel => exact ⟨({ v3 with d := y4 } : ConV), by rw [E.out, EN.out]; exact HF, Lib.hid HE3.out⟩
                      · as_aux_lemma =>
                          have hqb : (((kn : Nat) : Int) == 19) = false := by simpa using hq
                          have E : Hid (S7 = S6) := Lib.hid (by rw [E7.out]; unfold s7; rw [if_neg (by rw [KK.out]; exact hq)])
                          clear hq
                          go_wp2_with fail
                          go_meet
                          case rel => exact ⟨vv, by rw [E.out]; exact H, Lib.hid HE.out⟩
                    case rest =>
                      obtain ⟨vv, H2, HE⟩ := hcut
                      clear c0 KK K6
                      clear KB KSM
                      obtain ⟨vv, H, HE⟩ : ∃ vv, Hid (Mk w (smC zA zB zC k K ch) zeroC _ vv S7) ∧ Hid (vv.e = ⟨none, 0, 0⟩ ∧ vv.r = ⟨none, 0, 0⟩) := ⟨_, H2, HE⟩
                      clear H2
                      have KK := K7
                      have c0 := H.out.cells 0 rfl
                      rw [KK.out] at c0
                      go_upto_if 110 with fail
                      go_cut [] (fun wx => ∃ vv, Hid (Mk w (smC zA zB zC k K ch) zeroC wx vv S8) ∧ Hid (vv.r = ⟨none, 0, 0⟩))
                      case first =>
                        by_cases hq : ((kn : Nat) : Int) = 21
                        · as_aux_lemma =>
                            have hqb : (((kn : Nat) : Int) == 21) = true := by simpa using hq
                            have EQ := Lib.hid (fun (h : S7.kind = 21) => h)
                            have hkS : Hid (S7.kind = 21) := Lib.hid (by rw [KK.out]; exact hq)
                            clear hq EQ
                            have E : Hid (S8 = { S7 with C := mkL (gcF K) (1 + lc.length % 3), D := mkL (numE lc 0 0 2) (1 + lc.length % 3), E := mkL (geF lc ch) (1 + lc.length % 3) }) := Lib.hid (by rw [E8.out]; unfold s8; rw [if_pos hkS.out])
                            have hcn := HC.out.len
                            have hcb := HC.out.big
                            obtain ⟨m, hm⟩ : ∃ m, m = 1 + lc.length % 3 := ⟨_, rfl⟩
                            have wm1 : IntKind.i64.wrap (((zC.n : Nat) : Int) % 3) = ((zC.n : Nat) : Int) % 3 := IntWalk.i64_in _ (by omega)
                            have wm2 : IntKind.i64.wrap (1 + ((zC.n : Nat) : Int) % 3) = ((m : Nat) : Int) := by rw [hm, ← hcn]; exact (IntWalk.i64_in _ (by omega)).trans (by omega)
                            have hm3 : m ≤ 3 := by omega
                            rw [← hm] at E
                            clear hcn hcb hm
                            have zz := H.out.zcell 3 rfl
                            have c2 := H.out.cells 3 rfl
                            have f2 := H.out.free 3
                            have HN3 := Lib.hid (H.out.setC (x := ⟨none, 0, 0⟩) (Row3.nil _ _))
                            obtain ⟨i0, hi, hz0, hz1, hz2⟩ := info_parts Tryz.info3
                            go_upto_region 28 with fail
                            generalize (wc.setCell ⟨w.heap.size + 1 + 1, 3, none⟩ (.slice none 0 0)) = W3 at *
                            obtain ⟨v3, hv3⟩ : ∃ v3, v3 = ({ vv with c := ⟨none, 0, 0⟩ } : ConV) := ⟨_, rfl⟩
                            have HE3 : Hid (v3.e = ⟨none, 0, 0⟩ ∧ v3.r = ⟨none, 0, 0⟩ ∧ v3.c = ⟨none, 0, 0⟩) := Lib.hid (by rw [hv3]; exact ⟨HE.out.1, HE.out.2, rfl⟩)
                            rw [← hv3] at HN3
                            obtain ⟨C3, hC3⟩ : ∃ C3, C3 = ({ S7 with C := [] } : ConL) := ⟨_, rfl⟩
                            have HC3 := Lib.hid hC3
                            rw [← hC3] at HN3
                            have zc3 := HN3.out.zcell 3 rfl
                            clear hv3 hC3 H HE c2 f2 zz c0
                            have zz := zc3
                            have hKK := HKK.out
                            have hK3 := tmod_in K 3 (by omega)
                            have wk1 : IntKind.i64.wrap K = K := IntWalk.i64_in _ (by omega)
                            have wk2 : IntKind.i64.wrap (K.tmod 3) = K.tmod 3 := IntWalk.i64_in _ (by omega)
                            have hsz3 := HN3.out.size
                            go_upto_region 30 with fail
                            go_loopw [9] (fun i wr => ∃ (j : Nat) (y : Sl), i = .int .i64 (j : Nat) ∧ j ≤ m ∧ Hid (Kp (w.heap.size + 1 + 1) W3 wr) ∧ Hid (wr.heap[w.heap.size + 1 + 1]? = some (.cells (({ v3 with c := y } : ConV).cells C3.kind C3.K) 32 (0, 0))) ∧ Hid (Row3 wr W3.heap.size y (mkL (gcF K) j))) (fun i _ => m - (intOf i).toNat)
                            case atStart => exact ⟨0, ⟨none, 0, 0⟩, rfl, by omega, Lib.hid (Kp.refl _ _), Lib.hid (by have := HN3.out.box.cb; rw [show v3 = ({ v3 with c := ⟨none, 0, 0⟩ } : ConV) by rw [← HE3.out.2.2]] at this; exact this), Lib.hid (Row3.nil _ _)⟩
                            case round =>
                              obtain ⟨j, y, rfl, hj, HKP, HBX, HO⟩ := hrel
                              have hB := HN3.out.box.kp HKP.out HBX.out
                              by_cases hlt : j < m
                              · as_aux_lemma =>
                                  have b3 : wr.cell? ⟨w.heap.size + 1 + 1, 3, none⟩ = some (.slice y.A y.n y.c) := box_cell HBX.out rfl
                                  have z4 : wr.cell? ⟨w.heap.size, 4, none⟩ = some (.int .i16 K) := box_cell hB.zb rfl
                                  have HT : Hid (I (mkL (gcF K) (j + 1)) = I (mkL (gcF K) j) ++ [.int .i64 (K.tmod 3 + (j : Nat))]) := Lib.hid (by rw [mkL_succ, I_append]; rfl)
                                  have wk3 : IntKind.i64.wrap (K.tmod 3 + ((j : Nat) : Int)) = K.tmod 3 + ((j : Nat) : Int) := IntWalk.i64_in _ (by omega)
                                  have hOk : wr.ownsRow W3.heap.size 3 1 (.slice y.A y.n y.c) j (I (mkL (gcF K) j)) := by have := HO.out; unfold Row3 at this; rwa [mkL_len] at this
                                  clear hB
                                  go_wp2_with (at_builtin; refine wpList_append_own _ rfl _ _ 30 rfl W3.heap.size 3 i0 (.int .i64 0) 1 8 Tryz.underlying30 hi hz0 hz1 hz2 rfl (by decide) _ _ _ rfl (hOk.alloc _) ⟨_, 0, none⟩ 1 1 [.int .i64 (K.tmod 3 + ((j : Nat) : Int))] rfl rfl ?c1 ?c2 ?c3 ?c4 ?c5 ?_)
                                  case c1 => intro j u hj; match j, hj with | 0, hj => simp at hj; subst hj; simp [Addr.add]
                                  case c2 => intro u hu; simp at hu; subst hu; rfl
                                  case c3 => unfold maxLen; omega
                                  case c4 => omega
                                  case c5 => have := HKP.out.size; simp; omega
                                  intro v' w7 hown' hgrow _
                                  rw [← HT.out] at hown'
                                  obtain ⟨Y, kY, rfl⟩ := slice_row hown'
                                  have hrow7 : Row3 w7 W3.heap.size ⟨Y, j + 1, kY⟩ (mkL (gcF K) (j + 1)) := by unfold Row3; rw [mkL_len]; exact hown'
                                  obtain ⟨b7, k8, b8, r8⟩ := HN3.out.growC HKP.out HBX.out HO.out hgrow hrow7
                                  have K8 := Lib.hid k8
                                  have B8 := Lib.hid b8
                                  have R8 := Lib.hid r8
                                  have b37 : w7.cell? ⟨w.heap.size + 1 + 1, 3, none⟩ = some (.slice y.A y.n y.c) := box_cell b7 rfl
                                  have f37 := box_free b7 3
                                  clear hown' hgrow hrow7 b7 k8 b8 r8 hOk HO HBX HKP b3 z4
                                  go_wp2_with fail
                                  go_roundw
                                  case rel => exact ⟨j + 1, by omega, by omega, ⟨Y, _, kY⟩, B8, R8⟩
                                  case measure => simp [intOf]; omega
                              · as_aux_lemma =>
                                  have HF0 := Lib.hid (HN3.out.end_c HKP.out HBX.out HO.out)
                                  have HE4 : Hid (({ v3 with c := y } : ConV).e = ⟨none, 0, 0⟩ ∧ ({ v3 with c := y } : ConV).r = ⟨none, 0, 0⟩) := Lib.hid ⟨HE3.out.1, HE3.out.2.1⟩
                                  obtain rfl : j = m := by omega
                                  clear HKP HBX HO hB HN3 HE3
                                  obtain ⟨v4, hv4⟩ : ∃ v4, v4 = ({ v3 with c := y } : ConV) := ⟨_, rfl⟩
                                  rw [← hv4] at HF0 HE4
                                  clear hv4
                                  obtain ⟨C4, hC4⟩ : ∃ C4, C4 = ({ C3 with C := mkL (gcF K) j } : ConL) := ⟨_, rfl⟩
                                  have HC4 := Lib.hid hC4
                                  rw [← hC4] at HF0
                                  clear hC4 hj hlt
                                  have zz := HF0.out.zcell 3 rfl
                                  have CP : Hid (Calls Tryz.prog 75 #[.slice zC.A zC.n zC.c, .int .i64 0, .int .i64 (j : Nat), .int .i64 0, .int .i64 2] _ _) := Lib.hid (mkNumbers_any zC lc 0 j 0 2 _ (HC.out.below HF0.out.box.low) BC.out (by omega) (by omega) (by omega))
                                  go_wp2_with fail
                                  refine CP.out.mono ?_
                                  rintro e w2 ⟨⟨yD, rfl, hy⟩, b2⟩
                                  have H1' := HF0.out.below b2
                                  have hy3 := hy.base (b' := w.heap.size + 1 + 1 + 1) HF0.out.size
                                  have c2 := H1'.cells 4 rfl
                                  have f2 := H1'.free 4
                                  have HF := Lib.hid (H1'.setD hy3)
                                  clear hy hy3 b2 H1' CP zz HF0 zc3 hsz3
                                  go_upto_region 34 with fail
                                  generalize (w2.setCell ⟨w.heap.size + 1 + 1, 4, none⟩ (.slice yD.A yD.n yD.c)) = W5 at *
                                  obtain ⟨v5, hv5⟩ : ∃ v5, v5 = ({ v4 with d := yD } : ConV) := ⟨_, rfl⟩
                                  have HE5 : Hid (v5.e = ⟨none, 0, 0⟩ ∧ v5.r = ⟨none, 0, 0⟩) := Lib.hid (by rw [hv5]; exact HE4.out)
                                  rw [← hv5] at HF
                                  obtain ⟨C5, hC5⟩ : ∃ C5, C5 = ({ C4 with D := mkL (numE lc 0 0 2) j } : ConL) := ⟨_, rfl⟩
                                  have HC5 := Lib.hid hC5
                                  rw [← hC5] at HF
                                  clear hv5 hC5 HE4 c2 f2
                                  have hsz5 := HF.out.size
                                  go_upto_region 35 with fail
                                  go_loopw [10] (fun i wr => ∃ (q : Nat) (y : Sl), i = .int .i64 (q : Nat) ∧ q ≤ j ∧ Hid (Kp (w.heap.size + 1 + 1) W5 wr) ∧ Hid (wr.heap[w.heap.size + 1 + 1]? = some (.cells (({ v5 with e := y } : ConV).cells C5.kind C5.K) 32 (0, 0))) ∧ Hid (Row3 wr W5.heap.size y (mkL (geF lc ch) q))) (fun i _ => j - (intOf i).toNat)
                                  case atStart => exact ⟨0, ⟨none, 0, 0⟩, rfl, by omega, Lib.hid (Kp.refl _ _), Lib.hid (by have := HF.out.box.cb; rw [show v5 = ({ v5 with e := ⟨none, 0, 0⟩ } : ConV) by rw [← HE5.out.1]] at this; exact this), Lib.hid (Row3.nil _ _)⟩
                                  case round =>
                                    obtain ⟨q, y', rfl, hq, HKP, HBX, HO⟩ := hrel
                                    have hB := HF.out.box.kp HKP.out HBX.out
                                    by_cases hlt : q < j
                                    · as_aux_lemma =>
                                        obtain ⟨cE, hcE⟩ : ∃ q, q = v5.d := ⟨_, rfl⟩
                                        have hD0 := (HF.out.after HKP.out).d
                                        rw [HC5.out] at hD0
                                        simp only at hD0
                                        obtain ⟨ad, eA, eN, hab, hac⟩ := row_cell (k := q) hD0 (by rw [mkL_len]; exact hlt)
                                        rw [mkL_len] at eN
                                        rw [mkL_getD _ hlt] at hac
                                        have b5 : wr.cell? ⟨w.heap.size + 1 + 1, 5, none⟩ = some (.slice y'.A y'.n y'.c) := box_cell HBX.out rfl
                                        have b4 : wr.cell? ⟨w.heap.size + 1 + 1, 4, none⟩ = some (.slice v5.d.A v5.d.n v5.d.c) := box_cell HBX.out rfl
                                        rw [eA, eN] at b4
                                        have z5 : wr.cell? ⟨w.heap.size, 5, none⟩ = some (.int .u8 ch) := box_cell hB.zb rfl
                                        have hGlt : w.heap.size + 1 + 1 < wr.heap.size := hB.size
                                        have b5' : ∀ o, (wr.alloc o).cell? ⟨w.heap.size + 1 + 1, 5, none⟩ = some (.slice y'.A y'.n y'.c) := fun o => ((below1 wr o).cell hGlt).trans b5
                                        have b4' : ∀ o, (wr.alloc o).cell? ⟨w.heap.size + 1 + 1, 4, none⟩ = some (.slice (some ad) j v5.d.c) := fun o => ((below1 wr o).cell hGlt).trans b4
                                        have z5' : ∀ o, (wr.alloc o).cell? ⟨w.heap.size, 5, none⟩ = some (.int .u8 ch) := fun o => ((below1 wr o).cell (p := ⟨w.heap.size, 5, none⟩) (by simp only; omega)).trans z5
                                        have hac' : ∀ o, (wr.alloc o).cell? (ad.add q) = some (.int .i64 (numE lc 0 0 2 q)) := fun o => ((below1 wr o).cell (by rw [add_block]; exact hab)).trans hac
                                        have hch := HCC.out
                                        have hnu := num_in lc 0 0 (wide := 2) (by omega) q
                                        have hq3 : q < 3 := by omega
                                        have wc1 : IntKind.i64.wrap ch = ch := IntWalk.i64_in _ (by omega)
                                        have hOk : Hid (wr.drew.ownsRow W5.heap.size 3 1 (.slice y'.A y'.n y'.c) q (I (mkL (geF lc ch) q))) := Lib.hid (by have := HO.out; unfold Row3 at this; rw [mkL_len] at this; exact this)
                                        have Z3 : Hid (q + 1 ≤ maxLen) := Lib.hid (by unfold maxLen; omega)
                                        have Z4 : Hid ((q + 1) * 8 ≤ 140737488355328) := Lib.hid (by omega)
                                        have HI := Lib.hid (And.intro hi (And.intro hz0 (And.intro hz1 hz2)))
                                        clear hD0 hB hi hz0 hz1 hz2
                                        go_upto_region 37 with fail
                                        have HT : Hid (I (mkL (geF lc ch) (q + 1)) = I (mkL (geF lc ch) q) ++ [.int .i64 (numE lc 0 0 2 q + (ch / 2 ^ q).tmod 3)]) := Lib.hid (by rw [mkL_succ, I_append]; rfl)
                                        have hm3c := tmod_in (ch / 2 ^ q) 3 (by omega)
                                        have wc2 : IntKind.i64.wrap (numE lc 0 0 2 q + (ch / 2 ^ q).tmod 3) = numE lc 0 0 2 q + (ch / 2 ^ q).tmod 3 := IntWalk.i64_in _ (by omega)
                                        have C6 : Hid (∀ i u, [Value.int .i64 (numE lc 0 0 2 q + (ch / 2 ^ q).tmod 3)][i]? = some u → (wr.alloc (.cells #[.int .i64 (numE lc 0 0 2 q + (ch / 2 ^ q).tmod 3)] 3)).drew.cell? ((⟨wr.heap.size, 0, none⟩ : Addr).add i) = some u) := Lib.hid (new1_cells' wr _ 3)
                                        have HOa : Hid ((wr.alloc (.cells #[.int .i64 (numE lc 0 0 2 q + (ch / 2 ^ q).tmod 3)] 3)).drew.ownsRow W5.heap.size 3 1 (.slice y'.A y'.n y'.c) q (I (mkL (geF lc ch) q))) := Lib.hid (hOk.out.alloc _)
                                        have Z5 : Hid (W5.heap.size ≤ (wr.alloc (.cells #[.int .i64 (numE lc 0 0 2 q + (ch / 2 ^ q).tmod 3)] 3)).drew.heap.size) := Lib.hid (by have := HKP.out.size; simp; omega)
                                        have GG : Hid (∀ (w6 : World) (Y : Option Addr) (kY : Nat), (wr.alloc (.cells #[.int .i64 (numE lc 0 0 2 q + (ch / 2 ^ q).tmod 3)] 3)).drew.grownBy w6 (Value.slice y'.A y'.n y'.c).ownBlock → w6.ownsRow W5.heap.size 3 1 (.slice Y (q + 1) kY) (q + 1) (I (mkL (geF lc ch) q) ++ [.int .i64 (numE lc 0 0 2 q + (ch / 2 ^ q).tmod 3)]) →
                                            w6.heap[w.heap.size + 1 + 1]? = some (.cells (({ v5 with e := y' } : ConV).cells C5.kind C5.K) 32 (0, 0)) ∧ Hid (Kp (w.heap.size + 1 + 1) W5 (w6.setCell ⟨w.heap.size + 1 + 1, 5, none⟩ (.slice Y (q + 1) kY))) ∧ Hid ((w6.setCell ⟨w.heap.size + 1 + 1, 5, none⟩ (.slice Y (q + 1) kY)).heap[w.heap.size + 1 + 1]? = some (.cells (({ v5 with e := ⟨Y, q + 1, kY⟩ } : ConV).cells C5.kind C5.K) 32 (0, 0))) ∧ Hid (Row3 (w6.setCell ⟨w.heap.size + 1 + 1, 5, none⟩ (.slice Y (q + 1) kY)) W5.heap.size ⟨Y, q + 1, kY⟩ (mkL (geF lc ch) (q + 1)))) := Lib.hid (fun w6 Y kY hg hr => by
                                          have hrow7 : Row3 w6 W5.heap.size ⟨Y, q + 1, kY⟩ (mkL (geF lc ch) (q + 1)) := by unfold Row3; rw [mkL_len, HT.out]; exact hr
                                          obtain ⟨b7, k8, b8, r8⟩ := HF.out.growE (t := .cells #[.int .i64 (numE lc 0 0 2 q + (ch / 2 ^ q).tmod 3)] 3) HKP.out HBX.out HO.out ⟨hg.os, hg.tape, hg.output, hg.size, hg.block⟩ hrow7
                                          exact ⟨b7, k8, b8, r8⟩)
                                        clear hm3c hnu hch HO HBX HKP hOk HT cE hcE eA eN hGlt
                                        go_region_law (first
                                          | (refine step_append_own rfl (.tmp 144) (.tmp 157) 30 rfl W5.heap.size 3 i0 (.int .i64 0) 1 8 Tryz.underlying30 HI.out.1 HI.out.2.1 HI.out.2.2.1 HI.out.2.2.2 rfl (by decide) (.slice y'.A y'.n y'.c) q _ rfl HOa.out ⟨wr.heap.size, 0, none⟩ 1 [.int .i64 (numE lc 0 0 2 q + (ch / 2 ^ q).tmod 3)] rfl rfl C6.out (int_one' _) Z3.out Z4.out Z5.out ?_; intro v6 w6 R6 G6; obtain ⟨Y, kY, rfl⟩ := slice_row R6; obtain ⟨b7, K8, B8, R8⟩ := GG.out w6 Y kY G6 R6; have b57 : w6.cell? ⟨w.heap.size + 1 + 1, 5, none⟩ = some (.slice y'.A y'.n y'.c) := box_cell b7 rfl; have f57 := box_free b7 5; clear b7 R6 G6)
                                          | fail)
                                        all_goals
                                          clear b5 b4 z5 b5' b4' z5' hac hac' GG C6 HOa Z3 Z4 Z5 b57 f57
                                          go_wp2_with fail
                                          go_roundw
                                          case rel => first | exact ⟨q + 1, by omega, by omega, ⟨Y, _, kY⟩, B8, R8⟩ | exact ⟨q + 1, by omega, by omega, K8, ⟨Y, _, kY⟩, B8, R8⟩ | exact ⟨q + 1, ⟨Y, _, kY⟩, by go_num, by omega, K8, B8, R8⟩ | exact ⟨q + 1, ⟨Y, _, kY⟩, by omega, by omega, K8, B8, R8⟩
                                          case measure => simp [intOf]; omega
                                    · as_aux_lemma =>
                                        have HG := Lib.hid (HF.out.end_e HKP.out HBX.out HO.out)
                                        have HE6 : Hid (({ v5 with e := y' } : ConV).r = ⟨none, 0, 0⟩) := Lib.hid HE5.out.2
                                        obtain rfl : q = j := by omega
                                        clear HKP HBX HO hB HF HE5
                                        go_wp2_with fail
                                        go_meet
                                        case rel => exact ⟨({ v5 with e := y' } : ConV), by rw [E.out]; have := HG.out; rw [HC5.out, HC4.out, HC3.out] at this; exact Lib.hid this, HE6⟩
                        · as_aux_lemma =>
                            have hqb : (((kn : Nat) : Int) == 21) = false := by simpa using hq
                            have E : Hid (S8 = S7) := Lib.hid (by rw [E8.out]; unfold s8; rw [if_neg (by rw [KK.out]; exact hq)])
                            clear hq
                            go_wp2_with fail
                            go_meet
                            case rel => exact ⟨vv, by rw [E.out]; exact H, Lib.hid HE.out.2⟩
                      case rest =>
                        obtain ⟨vv, H2, HE⟩ := hcut
                        clear c0 KK K7
                        obtain ⟨vv, H, HE⟩ : ∃ vv, Hid (Mk w (smC zA zB zC k K ch) zeroC _ vv S8) ∧ Hid (vv.r = ⟨none, 0, 0⟩) := ⟨_, H2, HE⟩
                        clear H2
                        have KK := K8
                        have c0 := H.out.cells 0 rfl
                        rw [KK.out] at c0
                        go_upto_if 162 with fail
                        go_cut [] (fun wx => ∃ vv, Hid (Mk w (smC zA zB zC k K ch) zeroC wx vv RES) ∧ Hid (True))
                        case first =>
                          by_cases hq : ((kn : Nat) : Int) = 18
                          · as_aux_lemma =>
                              have hqb : (((kn : Nat) : Int) == 18) = true := by simpa using hq
                              have EQ := Lib.hid (fun (h : S8.kind = 18) => h)
                              have hkS : Hid (S8.kind = 18) := Lib.hid (by rw [KK.out]; exact hq)
                              clear hq EQ
                              have E : Hid (RES = { S8 with rows := (List.range (1 + lc.length % 6)).map (rowF lc n) }) := Lib.hid (by rw [HRES.out]; unfold s9; rw [if_pos hkS.out])
                              have hcn := HC.out.len
                              have hcb := HC.out.big
                              obtain ⟨m, hm⟩ : ∃ m, m = 1 + lc.length % 6 := ⟨_, rfl⟩
                              have wm1 : IntKind.i64.wrap (((zC.n : Nat) : Int) % 6) = ((zC.n : Nat) : Int) % 6 := IntWalk.i64_in _ (by omega)
                              have wm2 : IntKind.i64.wrap (1 + ((zC.n : Nat) : Int) % 6) = ((m : Nat) : Int) := by rw [hm, ← hcn]; exact (IntWalk.i64_in _ (by omega)).trans (by omega)
                              have hm6 : m ≤ 6 := by omega
                              rw [← hm] at E
                              clear hcn hcb hm
                              have zz := H.out.zcell 3 rfl
                              obtain ⟨i1, hi, hz0, hz1, hz2⟩ := info_parts infoSl'
                              have HI := Lib.hid (And.intro hi (And.intro hz0 (And.intro hz1 hz2)))
                              have hsz3 := H.out.size
                              clear hi hz0 hz1 hz2 c0
                              go_upto_region 41 with fail
                              generalize wc = W3 at *
                              simp only [hqb]
                              go_loopw [12] (fun i wr => ∃ (j : Nat) (y : Sl), i = .int .i64 (j : Nat) ∧ j ≤ m ∧ Hid (Kp (w.heap.size + 1 + 1) W3 wr) ∧ Hid (wr.heap[w.heap.size + 1 + 1]? = some (.cells (({ vv with r := y } : ConV).cells S8.kind S8.K) 32 (0, 0))) ∧ Hid (RowsPP wr W3.heap.size (w.heap.size + 1 + 1 + 1) y ((List.range j).map (rowF lc n)))) (fun i _ => m - (intOf i).toNat)
                              case atStart => exact ⟨0, ⟨none, 0, 0⟩, rfl, by omega, Lib.hid (Kp.refl _ _), Lib.hid (by have := H.out.box.cb; rw [show vv = ({ vv with r := ⟨none, 0, 0⟩ } : ConV) by rw [← HE.out]] at this; exact this), Lib.hid (RowsPP.nil _ _ _)⟩
                              case round =>
                                obtain ⟨j, y, rfl, hj, HKP, HBX, HO⟩ := hrel
                                have hB := H.out.box.kp HKP.out HBX.out
                                by_cases hlt : j < m
                                · as_aux_lemma =>
                                    obtain ⟨p, hp⟩ : ∃ p, p = j * n := ⟨_, rfl⟩
                                    have hp6 : p ≤ 6000 := by rw [hp]; exact Nat.le_trans (Nat.mul_le_mul (by omega : j ≤ 6) hn4.2) (by decide)
                                    have wp : IntKind.i64.wrap (((j : Nat) : Int) * ((n : Nat) : Int)) = ((p : Nat) : Int) := by rw [hp, ← Int.natCast_mul]; exact IntWalk.i64_in _ (by rw [← hp]; omega)
                                    have HRW : Hid (((List.range (j + 1)).map (rowF lc n)) = ((List.range j).map (rowF lc n)) ++ [mkL (numE lc p (-1) 4) n]) := Lib.hid (by rw [List.range_succ, List.map_append, hp]; rfl)
                                    have hRl : ((List.range j).map (rowF lc n)).length = j := by simp
                                    obtain ⟨xs, hxl, hOX, hXR⟩ := HO.out
                                    rw [hRl] at hxl hOX
                                    have b7 : wr.cell? ⟨w.heap.size + 1 + 1, 7, none⟩ = some (.slice y.A y.n y.c) := box_cell HBX.out rfl
                                    have z3 : wr.cell? ⟨w.heap.size, 3, none⟩ = some (.slice zC.A zC.n zC.c) := box_cell hB.zb rfl
                                    have hGlt : w.heap.size + 1 + 1 < wr.heap.size := hB.size
                                    have CN : Hid (Calls Tryz.prog 75 #[.slice zC.A zC.n zC.c, .int .i64 (p : Nat), .int .i64 (n : Nat), .int .i64 (-1), .int .i64 4] wr.drew fun e w' => (∃ y : Sl, e = .returned (.slice y.A y.n y.c) ∧ Row3 w' wr.drew.heap.size y (mkL (numE lc p (-1) 4) n)) ∧ Below wr.drew.heap.size wr.drew w') := Lib.hid (mkNumbers_any zC lc p n (-1) 4 wr.drew (HC.out.below (hB.low.drew)) BC.out (by omega) (by omega) (by omega))
                                    have Z3 : Hid (j + 1 ≤ maxLen) := Lib.hid (by unfold maxLen; omega)
                                    have Z4 : Hid ((j + 1) * 24 ≤ 140737488355328) := Lib.hid (by omega)
                                    have HGL := Lib.hid hGlt
                                    have GG : Hid (∀ (w1 : World) (yN : Sl), Below wr.drew.heap.size wr.drew w1 → Row3 w1 wr.drew.heap.size yN (mkL (numE lc p (-1) 4) n) →
                                        (w1.cell? ⟨w.heap.size + 1 + 1, 7, none⟩ = some (.slice y.A y.n y.c) ∧ (∀ o, (w1.alloc o).cell? ⟨w.heap.size + 1 + 1, 7, none⟩ = some (.slice y.A y.n y.c)) ∧ w1.cell? ⟨w.heap.size, 3, none⟩ = some (.slice zC.A zC.n zC.c)) ∧
                                        Hid ((w1.alloc (.cells #[.slice yN.A yN.n yN.c] 30)).ownsRow W3.heap.size 30 1 (.slice y.A y.n y.c) j (xs.map fun x => Value.slice x.A x.n x.c)) ∧ Hid (W3.heap.size ≤ (w1.alloc (.cells #[.slice yN.A yN.n yN.c] 30)).heap.size) ∧
                                        Hid (∀ (w6 : World) (Y : Option Addr) (kY : Nat), (w1.alloc (.cells #[.slice yN.A yN.n yN.c] 30)).grownBy w6 (Value.slice y.A y.n y.c).ownBlock → w6.ownsRow W3.heap.size 30 1 (.slice Y (j + 1) kY) (j + 1) ((xs.map fun x => Value.slice x.A x.n x.c) ++ [.slice yN.A yN.n yN.c]) →
                                          w6.heap[w.heap.size + 1 + 1]? = some (.cells (({ vv with r := y } : ConV).cells S8.kind S8.K) 32 (0, 0)) ∧ Hid (Kp (w.heap.size + 1 + 1) W3 (w6.setCell ⟨w.heap.size + 1 + 1, 7, none⟩ (.slice Y (j + 1) kY))) ∧ Hid ((w6.setCell ⟨w.heap.size + 1 + 1, 7, none⟩ (.slice Y (j + 1) kY)).heap[w.heap.size + 1 + 1]? = some (.cells (({ vv with r := ⟨Y, j + 1, kY⟩ } : ConV).cells S8.kind S8.K) 32 (0, 0))) ∧ Hid (RowsPP (w6.setCell ⟨w.heap.size + 1 + 1, 7, none⟩ (.slice Y (j + 1) kY)) W3.heap.size (w.heap.size + 1 + 1 + 1) ⟨Y, j + 1, kY⟩ ((List.range (j + 1)).map (rowF lc n))))) := Lib.hid (fun w1 yN b1 hN => by
                                      have hks : Kp (w.heap.size + 1 + 1) wr w1 := ⟨b1.os, b1.tape, b1.output, b1.size, fun k hk _ => b1.block k hk⟩
                                      have k1 := HKP.out.trans hks
                                      have hbx1 := (b1.block (w.heap.size + 1 + 1) HGL.out).trans HBX.out
                                      have hz31 : w1.cell? ⟨w.heap.size, 3, none⟩ = some (.slice zC.A zC.n zC.c) := (b1.cell (p := ⟨w.heap.size, 3, none⟩) (by have := HGL.out; show w.heap.size < wr.heap.size; omega)).trans z3
                                      have hbc := box_cell (j := 7) hbx1 (x := .slice y.A y.n y.c) rfl
                                      have hlt1 : w.heap.size + 1 + 1 < w1.heap.size := Nat.lt_of_lt_of_le HGL.out hks.size
                                      have hW3 := HKP.out.size
                                      have hOX1 := own_keep' (w' := w1) hOX (fun g hg => b1.block g (own_lt' hOX hg).2)
                                      have hN1 := hN.base (b' := w.heap.size + 1 + 1 + 1) (by have := HGL.out; show _ ≤ wr.heap.size; omega)
                                      refine ⟨⟨hbc, fun o => ((below1 w1 o).cell hlt1).trans hbc, hz31⟩, Lib.hid (hOX1.alloc _), Lib.hid (by have := hks.size; simp; omega), Lib.hid (fun w6 Y kY hg h7 => ?_)⟩
                                      obtain ⟨q1, q2, q3, q4⟩ := H.out.growR (xs := xs) (R := (List.range j).map (rowF lc n)) (y' := ⟨Y, j + 1, kY⟩) (yN := yN) (r := mkL (numE lc p (-1) 4) n) k1 hbx1 (by rw [hRl]; exact hxl) (by rw [hRl]; exact hOX1) (fun i x r h1 h2 => own_keep' (hXR i x r h1 h2) fun g hg => b1.block g (own_lt' (hXR i x r h1 h2) hg).2) hN1 hg (by rw [hRl]; exact h7)
                                      rw [← HRW.out] at q4
                                      exact ⟨q1, q2, q3, q4⟩)
                                    have b7d : wr.drew.cell? ⟨w.heap.size + 1 + 1, 7, none⟩ = some (.slice y.A y.n y.c) := b7
                                    have z3d : wr.drew.cell? ⟨w.heap.size, 3, none⟩ = some (.slice zC.A zC.n zC.c) := z3
                                    clear HO HBX HKP hB hxl hOX hXR hRl HRW hp hp6 hGlt
                                    go_upto_region 43 with fail
                                    go_region_law (first
                                      | (refine step_append_own rfl (.tmp 174) (.tmp 182) 27 rfl W3.heap.size 30 i1 (.slice none 0 0) 1 24 Tryz.underlying27 HI.out.1 HI.out.2.1 HI.out.2.2.1 HI.out.2.2.2 rfl (by decide) (.slice y.A y.n y.c) j _ rfl HOa.out ⟨w1.heap.size, 0, none⟩ 1 [.slice yN.A yN.n yN.c] rfl rfl (new1_cells' w1 _ _) (slice_one' _ _ _) Z3.out Z4.out Z5.out ?_; intro v6 w6 R6 G6; obtain ⟨Y, kY, rfl⟩ := slice_row R6; obtain ⟨c7, K8, B8, R8⟩ := GR.out w6 Y kY G6 R6; have b77 : w6.cell? ⟨w.heap.size + 1 + 1, 7, none⟩ = some (.slice y.A y.n y.c) := box_cell c7 rfl; have f77 := box_free c7 7; clear c7 R6 G6)
                                      | (go_simp; refine CN.out.mono ?_; rintro e w1 ⟨⟨yN, rfl, hyN⟩, b1⟩; obtain ⟨⟨d7, d7a, d3⟩, HOa, Z5, GR⟩ := GG.out w1 yN b1 hyN; clear hyN b1)
                                      | fail)
                                    all_goals
                                      clear b7 z3 b7d z3d d7 d7a d3 HOa Z5 GR GG CN
                                      go_wp2_with fail
                                      go_roundw
                                      case rel => first | exact ⟨j + 1, by omega, by omega, ⟨Y, _, kY⟩, B8, R8⟩ | exact ⟨j + 1, by omega, by omega, K8, ⟨Y, _, kY⟩, B8, R8⟩ | exact ⟨j + 1, ⟨Y, _, kY⟩, by go_num, by omega, K8, B8, R8⟩ | exact ⟨j + 1, ⟨Y, _, kY⟩, by omega, by omega, K8, B8, R8⟩ | exact ⟨j + 1, ⟨Y, _, kY⟩, by first | rfl | go_num, by omega, K8, B8, R8⟩ | exact ⟨⟨Y, _, kY⟩, j + 1, by first | rfl | go_num, by omega, K8, B8, R8⟩
                                      case measure => simp [intOf]; omega
                                · as_aux_lemma =>
                                    have HG := Lib.hid (H.out.end_r HKP.out HBX.out (HO.out.one H.out.size))
                                    obtain rfl : j = m := by omega
                                    clear HKP HBX HO hB
                                    go_wp2_with fail
                                    go_meet
                                    case rel => exact ⟨({ vv with r := y } : ConV), by rw [E.out]; exact HG, Lib.hid trivial⟩
                          · as_aux_lemma =>
                              have hqb : (((kn : Nat) : Int) == 18) = false := by simpa using hq
                              have E : Hid (RES = S8) := Lib.hid (by rw [HRES.out]; unfold s9; rw [if_neg (by rw [KK.out]; exact hq)])
                              clear hq
                              go_wp2_with fail
                              go_meet
                              case rel => exact ⟨vv, by rw [E.out]; exact H, Lib.hid trivial⟩
                        case rest =>
                          obtain ⟨vv, H2, HE⟩ := hcut
                          clear c0 KK K8
                          have x0 : wc.cell? ⟨w.heap.size + 1 + 1, 0, none⟩ = some (.int .i64 RES.kind) := H2.out.cells 0 rfl
                          have x1 := H2.out.cells 1 rfl
                          have x2 := H2.out.cells 2 rfl
                          have x3 := H2.out.cells 3 rfl
                          have x4 := H2.out.cells 4 rfl
                          have x5 := H2.out.cells 5 rfl
                          have x6 : wc.cell? ⟨w.heap.size + 1 + 1, 6, none⟩ = some (.int .i64 RES.K) := H2.out.cells 6 rfl
                          have x7 := H2.out.cells 7 rfl
                          have y0 := H2.out.ocell 0 rfl
                          have y1 := H2.out.ocell 1 rfl
                          have y2 := H2.out.ocell 2 rfl
                          have y3 := H2.out.ocell 3 rfl
                          have y4 := H2.out.ocell 4 rfl
                          have y5 := H2.out.ocell 5 rfl
                          have y6 := H2.out.ocell 6 rfl
                          have y7 := H2.out.ocell 7 rfl
                          have f0 := H2.out.ofree 0
                          have f1 := H2.out.ofree 1
                          have f2 := H2.out.ofree 2
                          have f3 := H2.out.ofree 3
                          have f4 := H2.out.ofree 4
                          have f5 := H2.out.ofree 5
                          have f6 := H2.out.ofree 6
                          have f7 := H2.out.ofree 7
                          obtain ⟨hQ, kQ⟩ := out8 H2.out.box.ob (.int .i64 RES.kind) (.slice vv.a.A vv.a.n vv.a.c) (.slice vv.b.A vv.b.n vv.b.c) (.slice vv.c.A vv.c.n vv.c.c) (.slice vv.d.A vv.d.n vv.d.c) (.slice vv.e.A vv.e.n vv.e.c) (.int .i64 RES.K) (.slice vv.r.A vv.r.n vv.r.c)
                          obtain ⟨l1, l2, l3, l4, l5, l6, l7⟩ := SL.out
                          have HCON := Lib.hid ((H2.out.rows.kp kQ (by omega)).con l1 l2 l3 l4 l5 l6 l7)
                          have HMR := Lib.hid (H2.out.rows.kp kQ (by omega))
                          have HLOW := Lib.hid (H2.out.box.low.trans (kQ.below (by have := H2.out.size; omega) (by omega)))
                          have q0 := box_cell (j := 0) hQ rfl
                          have q1 := box_cell (j := 1) hQ rfl
                          have q2 := box_cell (j := 2) hQ rfl
                          have q3 := box_cell (j := 3) hQ rfl
                          have q4 := box_cell (j := 4) hQ rfl
                          have q5 := box_cell (j := 5) hQ rfl
                          have q6 := box_cell (j := 6) hQ rfl
                          have q7 := box_cell (j := 7) hQ rfl
                          have HQ := Lib.hid (And.intro q0 (And.intro q1 (And.intro q2 (And.intro q3 (And.intro q4 (And.intro q5 (And.intro q6 q7)))))))
                          clear q0 q1 q2 q3 q4 q5 q6 q7 hQ kQ l1 l2 l3 l4 l5 l6 l7 H2 HE
                          go_wp2_with fail
                          obtain ⟨q0, q1, q2, q3, q4, q5, q6, q7⟩ := HQ.out
                          exact bodyPost_ret (v := vv.val RES.kind RES.K) (by simp [results, Tryz.results29, go_sem, q0, q1, q2, q3, q4, q5, q6, q7]) rfl ⟨⟨_, rfl, HCON.out, HMR.out⟩, HLOW.out⟩
theorem make_any (zA zB zC : Sl) (la lb lc : List Int) (k K ch vars : Int) (w : World) (ha : IsNs .u8 w zA la) (hb : IsNs .u8 w zB lb) (hc : IsNs .i8 w zC lc) (ba : ∀ v ∈ la, 0 ≤ v ∧ v ≤ 255) (bb : ∀ v ∈ lb, 0 ≤ v ∧ v ≤ 255) (bc : ∀ v ∈ lc, -128 ≤ v ∧ v ≤ 127) (hk : 0 ≤ k ∧ k ≤ 255) (hK : -32768 ≤ K ∧ K ≤ 32767) (hch : 0 ≤ ch ∧ ch ≤ 255) (hv : 1 ≤ vars ∧ vars ≤ 1000000) :
    Calls Tryz.prog 29 #[smV zA zB zC k K ch, .int .i64 vars] w fun e w' => (∃ v : ConV, e = .returned (v.val (makeE la lb lc k K ch vars).kind (makeE la lb lc k K ch vars).K) ∧ ConIn w' v (makeE la lb lc k K ch vars)) ∧ Below w.heap.size w w' :=
  (make_full zA zB zC la lb lc k K ch vars w ha hb hc ba bb bc hk hK hch hv).mono fun _ _ ⟨⟨v, e, h, _⟩, b⟩ => ⟨⟨v, e, h⟩, b⟩
end Go.Proofs.YtkhmocbfkpbpfaaGreatDoor
