/- The walk of LexBack. -/
import Derived.Test.YtancjkanmjdkkaaDoorTellsw
import Derived.Test.YtancjkanmjdkkaaDoorBackm
import Derived.BigRegion
namespace Go.Proofs.YtancjkanmjdkkaaDoor
open Go.RowKit

theorem bl_append (a b : ByteArray) : bl (a ++ b) = bl a ++ bl b := by
  unfold bl
  rw [ByteArray.data_append, Array.toList_append]

/-- The bytes of a list that came in. -/
def Bytes (w : World) (A : Option Addr) (n : Nat) (Z : Nat → Nat) : Prop := 0 < n → ∃ ad, A = some ad ∧ ad.block < w.heap.size ∧ ∀ j, j < n → w.cell? (ad.add j) = some (.int .u8 ((Z j : Nat) : Int)) ∧ Z j < 256

/-- Which gap follows a token. -/
def gapNo (n : Nat) (Z : Nat → Nat) (k : Nat) : Nat := (if k < n then Z k else 0) % 6

theorem err_empty {bs : Bs} (h : (lexA bs).2.2 ≠ 0) : (lexA bs).1 = [] := by
  unfold lexA at h ⊢
  split
  · rfl
  · next hh =>
    rw [if_neg hh] at h
    cases hr : lexL bs 0 with
    | ok l => rw [hr] at h; exact absurd rfl h
    | error e => rfl
theorem ok_lex {bs : Bs} (hb : bs.length ≤ 1048576) (h : (lexA bs).2.2 = 0) : lexL bs 0 = .ok (lexA bs).1 := by
  unfold lexA at h ⊢
  rw [if_neg (by omega)] at h ⊢
  cases hr : lexL bs 0 with
  | ok l => rfl
  | error e =>
    exfalso
    rw [hr] at h
    obtain ⟨p, e⟩ := e
    have h' : e = 0 := h
    have : ∀ bs p q, lexL bs p ≠ .error (q, 0) := by
      refine lex_ind (P := fun bs => ∀ p q, lexL bs p ≠ .error (q, 0)) (fun p q he => ?_) (fun bs n h hi ih p q he => ?_) (fun bs k n v h hi ih p q he => ?_) (fun bs e' h hi p q he => ?_)
      · rw [lexL_nil] at he; cases he
      · rw [lexL_skip h hi] at he
        exact ih _ _ he
      · rw [lexL_tok h hi] at he
        cases hr : lexL (bs.drop n) (p + n) with
        | ok l => rw [hr] at he; cases he
        | error e0 =>
          rw [hr] at he
          simp only [Res.pre] at he
          exact ih _ _ (hr.trans he)
      · rw [lexL_bad h hi] at he
        simp only [Except.error.injEq, Prod.mk.injEq] at he
        obtain ⟨-, rfl⟩ := he
        cases bs with
        | nil => exact h rfl
        | cons c r =>
          rw [item_cons] at hi
          repeat' split at hi
          all_goals cases hi
    exact this _ _ _ (h' ▸ hr)

theorem add_block' (a : Addr) (n : Nat) : (a.add n).block = a.block := by unfold Addr.add; split <;> rfl

theorem step_txt {J tx : ByteArray} {a u b g : Bs} {x : ByteArray} (h1 : txt u = tx) (h2 : txt a = J) (h3 : b = a ++ (u ++ g)) (h4 : x = txt g) : J ++ (tx ++ x) = txt b := by
  apply bl_inj
  rw [bl_append, bl_append, ← h1, ← h2, h4, bl_txt, bl_txt, bl_txt, bl_txt, h3]

set_option maxHeartbeats 8000000 in
set_option maxRecDepth 100000 in
theorem back_walk (s : ByteArray) (A : Option Addr) (n cap : Nat) (Z : Nat → Nat) (w : World) (hs : s.size ≤ 9223372036854775807) (hA : Bytes w A n Z) (hn : n ≤ 9223372036854775807) :
    Calls Tryd.prog 5 #[.string s, .slice A n cap] w fun e w' => e = .returned (.bool true) ∧ Below w.heap.size w w' := by
  have C1 := Lib.hid (fun t W h => lex_any t W h)
  have C3 := Lib.hid wakes_true
  have hsz : (s.extract 0 (min (s.size : Int) 500).toNat).size ≤ 500 := by
    rw [ByteArray.size_extract]
    omega
  have HA := Lib.hid hA
  clear hA
  go_enter Tryd.func5, Tryd.ntmps5
  go_wp2_with fail
  generalize s.extract 0 (min (s.size : Int) 500).toNat = t at hsz
  generalize min (s.size : Int) 500 = mm
  refine (C1.out t _ (by omega)).mono ?_
  rintro e w1 ⟨v1, rfl, t1, b1⟩
  have B1 := Lib.hid b1
  clear b1
  by_cases hE : (lexA (bl t)).2.2 = 0
  · have HL := Lib.hid (ok_lex (by rw [bl_len]; omega) hE)
    have hEb : ((lexA (bl t)).2.2 != 0) = false := by simpa using hE
    obtain ⟨l, hl⟩ : ∃ l, (lexA (bl t)).1 = l := ⟨_, rfl⟩
    rw [hl] at t1 HL
    have hll : l.length ≤ 500 := by
      have := lexA_len (bl t)
      rw [hl, bl_len] at this
      omega
    generalize (lexA (bl t)).2.2 = E at hEb
    generalize (lexA (bl t)).2.1 = P
    clear hE hl
    have HJ := Lib.hid (fun k hk => joined_len HL.out (by rw [bl_len]; exact hsz) (gapNo n Z) k hk)
    have HT := Lib.hid (told_again HL.out (by rw [bl_len]; exact hsz) (gapNo n Z))
    obtain ⟨a1, c1, rfl, -⟩ := t1.view
    have T1 := Lib.hid t1
    clear t1
    go_wp2_with fail
    go_loopw [8, 37] (fun x i wr => ∃ k : Nat, k ≤ l.length ∧ i = .int .i64 (k : Nat) ∧ x = .string (txt (joined l (gapNo n Z) k)) ∧ Hid (Below w1.heap.size w1 wr)) (fun _ i _ => meas l.length i)
    case atStart => exact ⟨0, Nat.zero_le _, rfl, by rw [joined_zero]; rfl, Lib.hid (Below.refl _ _)⟩
    case round =>
      obtain ⟨k, hk, rfl, rfl, HB⟩ := hrel
      by_cases hlt : k < l.length
      · obtain ⟨g, c2, he, hcap, hg, hcell⟩ := T1.out.lies (by omega)
        cases he
        obtain ⟨x0, x1, x2, x3⟩ := hcell k hlt
        have x0 := (HB.out.cell (p := ⟨g, _, none⟩) hg).trans x0
        have x1 := (HB.out.cell (p := ⟨g, _, none⟩) hg).trans x1
        have x2 := (HB.out.cell (p := ⟨g, _, none⟩) hg).trans x2
        have x3 := (HB.out.cell (p := ⟨g, _, none⟩) hg).trans x3
        have HS := Lib.hid (joined_succ l (gapNo n Z) k hlt)
        have hjl := HJ.out (k + 1) (by omega)
        obtain ⟨u, hu⟩ : ∃ u, l[k] = u := ⟨_, rfl⟩
        rw [hu] at x0 x1 x2 x3 HS
        clear hcell hu
        obtain ⟨kd, hkd⟩ : ∃ kd, u.kind = kd := ⟨_, rfl⟩
        obtain ⟨nu, hnu⟩ : ∃ nu, u.num = nu := ⟨_, rfl⟩
        obtain ⟨pl, hpl⟩ : ∃ pl, u.at_ = pl := ⟨_, rfl⟩
        rw [hkd] at x0
        rw [hnu] at x2
        rw [hpl] at x3
        obtain ⟨tx, htx⟩ : ∃ tx, txt u.text = tx := ⟨_, rfl⟩
        rw [htx] at x1
        obtain ⟨J, hJ⟩ : ∃ J, txt (joined l (gapNo n Z) k) = J := ⟨_, rfl⟩
        have HH := Lib.hid (And.intro htx hJ)
        have htz : tx.size ≤ 3500 := by
          have := congrArg List.length HS.out
          rw [← htx, txt_size]
          simp only [List.length_append] at this
          omega
        have hJz : J.size ≤ 3500 := by
          rw [← hJ, txt_size]
          exact HJ.out k hk
        rw [hJ]
        clear hkd hnu hpl htx hJ
        have hltI : (k : Int) < (l.length : Int) := by omega
        obtain ⟨wo, hwo⟩ : ∃ wo, wo = wr := ⟨_, rfl⟩
        rw [← hwo] at HB x0 x1 x2 x3
        rw [← hwo]
        clear hwo
        by_cases hkn : k < n
        · obtain ⟨ad, rfl, had, hz⟩ := HA.out (by omega)
          obtain ⟨z0, z255⟩ := hz k hkn
          have y0 := (HB.out.cell (p := ad.add k) (by rw [add_block']; have := B1.out.size; omega)).trans ((B1.out.cell (by rw [add_block']; exact had)).trans z0)
          obtain ⟨z, hz'⟩ : ∃ z, Z k = z := ⟨_, rfl⟩
          have hgz : gapNo n Z k = z % 6 := by rw [gapNo, if_pos hkn, hz']
          rw [hz'] at y0 z255
          have y1 : (wo.alloc (.cells #[.int .i64 (kd : Nat), .string tx, .int .i64 nu, .int .i64 (pl : Nat)] 33)).cell? (ad.add k) = some (.int .u8 ((z : Nat) : Int)) :=
            (((Below.refl wo.heap.size wo).alloc (Nat.le_refl _) _).cell (by rw [add_block']; have := B1.out.size; have := HB.out.size; omega)).trans y0
          clear hz z0 hz' y0
          have hknI : (k : Int) < (n : Int) := by omega
          have hz0 : (0 : Int) ≤ (z : Int) := by omega
          rcases (show z % 6 = 0 ∨ z % 6 = 1 ∨ z % 6 = 2 ∨ z % 6 = 3 ∨ z % 6 = 4 ∨ z % 6 = 5 by omega) with h6 | h6 | h6 | h6 | h6 | h6
          · have hg0 : gapNo n Z k = 0 := by rw [hgz, h6]
            have hm1 : ((z : Nat) : Int) % 6 = 0 := by omega
            have hm2 : ((z : Nat) : Int).tmod 6 = 0 := by rw [Int.tmod_eq_emod_of_nonneg (by omega)]; exact hm1
            clear hgz h6 hz0
            have HW := Lib.hid (((HB.out.alloc HB.out.size (.cells #[.int .i64 (kd : Nat), .string tx, .int .i64 nu, .int .i64 (pl : Nat)] 33)).alloc (by have := HB.out.size; simp; omega) (.cells #[.string ⟨#[32]⟩, .string ⟨#[10]⟩, .string ⟨#[9, 32]⟩, .string ⟨#[37, 32, 194, 167, 255, 10]⟩, .string ⟨#[37, 10, 37, 37, 13, 10]⟩, .string ⟨#[32, 13]⟩] 9)).drew)
            have HX : Hid (J ++ (tx ++ ⟨#[32]⟩) = txt (joined l (gapNo n Z) (k + 1))) := Lib.hid (step_txt HH.out.1 HH.out.2 HS.out (by rw [hg0]; rfl))
            clear hg0 HS HH
            go_wp2_with fail
            go_region
            go_wp2_with fail
            go_roundw
            case rel => exact ⟨k + 1, by omega, by go_num, congrArg _ HX.out, HW⟩
            case measure => simp [meas, intOf]; omega
          · have hg0 : gapNo n Z k = 1 := by rw [hgz, h6]
            have hm1 : ((z : Nat) : Int) % 6 = 1 := by omega
            have hm2 : ((z : Nat) : Int).tmod 6 = 1 := by rw [Int.tmod_eq_emod_of_nonneg (by omega)]; exact hm1
            clear hgz h6 hz0
            have HW := Lib.hid (((HB.out.alloc HB.out.size (.cells #[.int .i64 (kd : Nat), .string tx, .int .i64 nu, .int .i64 (pl : Nat)] 33)).alloc (by have := HB.out.size; simp; omega) (.cells #[.string ⟨#[32]⟩, .string ⟨#[10]⟩, .string ⟨#[9, 32]⟩, .string ⟨#[37, 32, 194, 167, 255, 10]⟩, .string ⟨#[37, 10, 37, 37, 13, 10]⟩, .string ⟨#[32, 13]⟩] 9)).drew)
            have HX : Hid (J ++ (tx ++ ⟨#[10]⟩) = txt (joined l (gapNo n Z) (k + 1))) := Lib.hid (step_txt HH.out.1 HH.out.2 HS.out (by rw [hg0]; rfl))
            clear hg0 HS HH
            go_wp2_with fail
            go_region
            go_wp2_with fail
            go_roundw
            case rel => exact ⟨k + 1, by omega, by go_num, congrArg _ HX.out, HW⟩
            case measure => simp [meas, intOf]; omega
          · have hg0 : gapNo n Z k = 2 := by rw [hgz, h6]
            have hm1 : ((z : Nat) : Int) % 6 = 2 := by omega
            have hm2 : ((z : Nat) : Int).tmod 6 = 2 := by rw [Int.tmod_eq_emod_of_nonneg (by omega)]; exact hm1
            clear hgz h6 hz0
            have HW := Lib.hid (((HB.out.alloc HB.out.size (.cells #[.int .i64 (kd : Nat), .string tx, .int .i64 nu, .int .i64 (pl : Nat)] 33)).alloc (by have := HB.out.size; simp; omega) (.cells #[.string ⟨#[32]⟩, .string ⟨#[10]⟩, .string ⟨#[9, 32]⟩, .string ⟨#[37, 32, 194, 167, 255, 10]⟩, .string ⟨#[37, 10, 37, 37, 13, 10]⟩, .string ⟨#[32, 13]⟩] 9)).drew)
            have HX : Hid (J ++ (tx ++ ⟨#[9, 32]⟩) = txt (joined l (gapNo n Z) (k + 1))) := Lib.hid (step_txt HH.out.1 HH.out.2 HS.out (by rw [hg0]; rfl))
            clear hg0 HS HH
            go_wp2_with fail
            go_region
            go_wp2_with fail
            go_roundw
            case rel => exact ⟨k + 1, by omega, by go_num, congrArg _ HX.out, HW⟩
            case measure => simp [meas, intOf]; omega
          · have hg0 : gapNo n Z k = 3 := by rw [hgz, h6]
            have hm1 : ((z : Nat) : Int) % 6 = 3 := by omega
            have hm2 : ((z : Nat) : Int).tmod 6 = 3 := by rw [Int.tmod_eq_emod_of_nonneg (by omega)]; exact hm1
            clear hgz h6 hz0
            have HW := Lib.hid (((HB.out.alloc HB.out.size (.cells #[.int .i64 (kd : Nat), .string tx, .int .i64 nu, .int .i64 (pl : Nat)] 33)).alloc (by have := HB.out.size; simp; omega) (.cells #[.string ⟨#[32]⟩, .string ⟨#[10]⟩, .string ⟨#[9, 32]⟩, .string ⟨#[37, 32, 194, 167, 255, 10]⟩, .string ⟨#[37, 10, 37, 37, 13, 10]⟩, .string ⟨#[32, 13]⟩] 9)).drew)
            have HX : Hid (J ++ (tx ++ ⟨#[37, 32, 194, 167, 255, 10]⟩) = txt (joined l (gapNo n Z) (k + 1))) := Lib.hid (step_txt HH.out.1 HH.out.2 HS.out (by rw [hg0]; rfl))
            clear hg0 HS HH
            go_wp2_with fail
            go_region
            go_wp2_with fail
            go_roundw
            case rel => exact ⟨k + 1, by omega, by go_num, congrArg _ HX.out, HW⟩
            case measure => simp [meas, intOf]; omega
          · have hg0 : gapNo n Z k = 4 := by rw [hgz, h6]
            have hm1 : ((z : Nat) : Int) % 6 = 4 := by omega
            have hm2 : ((z : Nat) : Int).tmod 6 = 4 := by rw [Int.tmod_eq_emod_of_nonneg (by omega)]; exact hm1
            clear hgz h6 hz0
            have HW := Lib.hid (((HB.out.alloc HB.out.size (.cells #[.int .i64 (kd : Nat), .string tx, .int .i64 nu, .int .i64 (pl : Nat)] 33)).alloc (by have := HB.out.size; simp; omega) (.cells #[.string ⟨#[32]⟩, .string ⟨#[10]⟩, .string ⟨#[9, 32]⟩, .string ⟨#[37, 32, 194, 167, 255, 10]⟩, .string ⟨#[37, 10, 37, 37, 13, 10]⟩, .string ⟨#[32, 13]⟩] 9)).drew)
            have HX : Hid (J ++ (tx ++ ⟨#[37, 10, 37, 37, 13, 10]⟩) = txt (joined l (gapNo n Z) (k + 1))) := Lib.hid (step_txt HH.out.1 HH.out.2 HS.out (by rw [hg0]; rfl))
            clear hg0 HS HH
            go_wp2_with fail
            go_region
            go_wp2_with fail
            go_roundw
            case rel => exact ⟨k + 1, by omega, by go_num, congrArg _ HX.out, HW⟩
            case measure => simp [meas, intOf]; omega
          · have hg0 : gapNo n Z k = 5 := by rw [hgz, h6]
            have hm1 : ((z : Nat) : Int) % 6 = 5 := by omega
            have hm2 : ((z : Nat) : Int).tmod 6 = 5 := by rw [Int.tmod_eq_emod_of_nonneg (by omega)]; exact hm1
            clear hgz h6 hz0
            have HW := Lib.hid (((HB.out.alloc HB.out.size (.cells #[.int .i64 (kd : Nat), .string tx, .int .i64 nu, .int .i64 (pl : Nat)] 33)).alloc (by have := HB.out.size; simp; omega) (.cells #[.string ⟨#[32]⟩, .string ⟨#[10]⟩, .string ⟨#[9, 32]⟩, .string ⟨#[37, 32, 194, 167, 255, 10]⟩, .string ⟨#[37, 10, 37, 37, 13, 10]⟩, .string ⟨#[32, 13]⟩] 9)).drew)
            have HX : Hid (J ++ (tx ++ ⟨#[32, 13]⟩) = txt (joined l (gapNo n Z) (k + 1))) := Lib.hid (step_txt HH.out.1 HH.out.2 HS.out (by rw [hg0]; rfl))
            clear hg0 HS HH
            go_wp2_with fail
            go_region
            go_wp2_with fail
            go_roundw
            case rel => exact ⟨k + 1, by omega, by go_num, congrArg _ HX.out, HW⟩
            case measure => simp [meas, intOf]; omega
        · have hg0 : gapNo n Z k = 0 := by simp [gapNo, hkn]
          have HW := Lib.hid (((HB.out.alloc HB.out.size (.cells #[.int .i64 (kd : Nat), .string tx, .int .i64 nu, .int .i64 (pl : Nat)] 33)).alloc (by have := HB.out.size; simp; omega) (.cells #[.string ⟨#[32]⟩, .string ⟨#[10]⟩, .string ⟨#[9, 32]⟩, .string ⟨#[37, 32, 194, 167, 255, 10]⟩, .string ⟨#[37, 10, 37, 37, 13, 10]⟩, .string ⟨#[32, 13]⟩] 9)).drew)
          have HX : Hid (J ++ (tx ++ ⟨#[32]⟩) = txt (joined l (gapNo n Z) (k + 1))) := Lib.hid (step_txt HH.out.1 HH.out.2 HS.out (by rw [hg0]; rfl))
          clear hg0 HS HH
          go_wp2_with fail
          go_region
          go_wp2_with fail
          go_roundw
          case rel => exact ⟨k + 1, by omega, by go_num, congrArg _ HX.out, HW⟩
          case measure => simp [meas, intOf]; omega
      · obtain rfl : k = l.length := by omega
        obtain ⟨m, hm1, hm2, hm3⟩ := HT.out
        obtain ⟨T, hT⟩ : ∃ T, txt (joined l (gapNo n Z) l.length) = T := ⟨_, rfl⟩
        have hbT : bl T = joined l (gapNo n Z) l.length := by rw [← hT, bl_txt]
        have hTs : T.size ≤ 3500 := by
          rw [← bl_len, hbT]
          exact HJ.out _ (Nat.le_refl _)
        have CT := Lib.hid (fun W => C1.out T W (by omega))
        rw [hbT, hm1] at CT
        rw [← hbT] at hm3
        have HM := Lib.hid hm3
        rw [hT]
        clear C1 HT HJ hm1 hm3 hbT hT HL HA
        have HBw := Lib.hid (B1.out.trans (HB.out.mono B1.out.size))
        have T1' := Lib.hid (T1.out.below HB.out)
        clear HB T1 B1
        obtain ⟨wo, hwo⟩ : ∃ wo, wo = wr := ⟨_, rfl⟩
        rw [← hwo] at HBw T1'
        rw [← hwo]
        clear hwo
        go_wp2_with fail
        refine (CT.out _).mono ?_
        rintro e w2 ⟨v2, rfl, t2, b2⟩
        have T2 := Lib.hid (And.intro (T1'.out.below b2) t2)
        have B2 := Lib.hid (HBw.out.trans (b2.mono HBw.out.size))
        clear t2 b2 T1' HBw CT
        obtain ⟨a2, c2, hv2, -⟩ := T2.out.2.view
        subst hv2
        rw [hm2]
        go_wp2_with fail
        refine (C3.out _).mono ?_
        rintro e w3 ⟨rfl, b3⟩
        have T3 := Lib.hid (And.intro (T2.out.1.below b3) (T2.out.2.below b3))
        have B3 := Lib.hid (B2.out.trans (b3.mono B2.out.size))
        clear b3 T2 B2 C3
        go_wp2_with fail
        go_loopw [82] (fun i wr => ∃ k : Nat, k ≤ l.length ∧ i = .int .i64 (k : Nat) ∧ Hid (Below w3.heap.size w3 wr)) (fun i _ => meas l.length i)
        case atStart => exact ⟨0, Nat.zero_le _, rfl, Lib.hid (Below.refl _ _)⟩
        case round =>
          obtain ⟨k, hk, rfl, HB⟩ := hrel
          by_cases hlt : k < l.length
          · obtain ⟨g, c3, he, hcap, hg, hcell⟩ := T3.out.1.lies (by omega)
            cases he
            obtain ⟨g2, c4, he2, hcap2, hg2, hcell2⟩ := T3.out.2.lies (by omega)
            cases he2
            have hkm : k < m.length := by omega
            obtain ⟨e0, e1, e2, e3, e4⟩ := HM.out k hlt hkm
            obtain ⟨x0, x1, x2, x3⟩ := hcell k hlt
            obtain ⟨y0, y1, y2, y3⟩ := hcell2 k hkm
            rw [e0] at y0
            rw [e1] at y1
            rw [e2] at y2
            have y0 := (HB.out.cell (p := ⟨g2, _, none⟩) hg2).trans y0
            have y1 := (HB.out.cell (p := ⟨g2, _, none⟩) hg2).trans y1
            have y2 := (HB.out.cell (p := ⟨g2, _, none⟩) hg2).trans y2
            have y3 := (HB.out.cell (p := ⟨g2, _, none⟩) hg2).trans y3
            obtain ⟨wo, hwo⟩ : ∃ wo, wo = wr := ⟨_, rfl⟩
            rw [← hwo] at HB y0 y1 y2 y3
            rw [← hwo]
            clear hwo
            obtain ⟨q, hq⟩ : ∃ q, m[k].at_ = q := ⟨_, rfl⟩
            rw [hq] at y3 e3 e4
            obtain ⟨u, hu⟩ : ∃ u, l[k] = u := ⟨_, rfl⟩
            rw [hu] at x0 x1 x2 x3 y0 y1 y2 e3 e4
            obtain ⟨kd, hkd⟩ : ∃ kd, u.kind = kd := ⟨_, rfl⟩
            obtain ⟨nu, hnu⟩ : ∃ nu, u.num = nu := ⟨_, rfl⟩
            obtain ⟨pl, hpl⟩ : ∃ pl, u.at_ = pl := ⟨_, rfl⟩
            obtain ⟨tx, htx⟩ : ∃ tx, txt u.text = tx := ⟨_, rfl⟩
            have htz : tx.size = u.text.length := by rw [← htx, txt_size]
            rw [bl_len, ← htz] at e3
            have hsl : ∀ W, (Instr.slice 9 (.string T) (some (.int .i64 ((q : Nat) : Int))) (some (.int .i64 (((q : Nat) : Int) + ((tx.size : Nat) : Int)))) none).run Tryd.prog W = .ok (.string tx) W := by
              intro W
              rw [slice_at T q tx.size e3 W]
              congr 2
              apply bl_inj
              rw [bl_extract, Nat.add_sub_cancel_left, htz, e4, ← htx, bl_txt]
            rw [hkd] at x0 y0
            rw [htx] at x1 y1
            rw [hnu] at x2 y2
            rw [hpl] at x3
            have hbx : ∀ j, (wo.alloc (.cells #[.int .i64 (kd : Nat), .string tx, .int .i64 nu, .int .i64 (q : Nat)] 33)).cell? ⟨g, j, none⟩ = w3.cell? ⟨g, j, none⟩ := fun j =>
              (((Below.refl wo.heap.size wo).alloc (Nat.le_refl _) _).cell (p := ⟨g, j, none⟩) (by have := HB.out.size; show g < _; omega)).trans (HB.out.cell (p := ⟨g, j, none⟩) hg)
            have z0 := (hbx _).trans x0
            have z1 := (hbx _).trans x1
            have z2 := (hbx _).trans x2
            have z3 := (hbx _).trans x3
            clear hbx x0 x1 x2 x3 hcell hcell2 e0 e1 e2 e4 hq hu hkd hnu hpl htx htz HM
            have hltI : (k : Int) < (l.length : Int) := by omega
            have hq0 : decide (((q : Nat) : Int) < 0) = false := decide_eq_false (by omega)
            have hqT : decide (((T.size : Nat) : Int) < ((q : Nat) : Int) + ((tx.size : Nat) : Int)) = false := decide_eq_false (by omega)
            have hlm : m.length = l.length := hm2
            go_wp2_with fail
            go_quiet (fail)
            have HBq := Lib.hid (below_drewN (HB.out.alloc HB.out.size (.cells #[.int .i64 (kd : Nat), .string tx, .int .i64 nu, .int .i64 (q : Nat)] 33)) nq)
            clear y0 y1 y2 y3 z0 z1 z2 z3 HB hsl
            generalize (wo.alloc (.cells #[.int .i64 (kd : Nat), .string tx, .int .i64 nu, .int .i64 (q : Nat)] 33)).drewN nq = wp at *
            go_wp2_with fail
            go_roundw
            case rel => exact ⟨k + 1, by omega, by go_num, HBq⟩
            case measure => simp [meas, intOf]; omega
          · go_wp2_with fail
            go_ret
            exact ⟨rfl, B3.out.trans (HB.out.mono B3.out.size)⟩
  · have hEb : ((lexA (bl t)).2.2 != 0) = true := by simpa using hE
    have hl := err_empty hE
    rw [hl] at t1
    obtain ⟨a1, c1, rfl, -⟩ := t1.view
    generalize (lexA (bl t)).2.2 = E at hEb
    generalize (lexA (bl t)).2.1 = P
    clear hE hl t1 C1
    go_wp2_with fail
    refine (C3.out _).mono ?_
    rintro e w3 ⟨rfl, b3⟩
    go_wp2_with fail
    go_ret
    exact ⟨rfl, B1.out.trans (b3.mono B1.out.size)⟩
end Go.Proofs.YtancjkanmjdkkaaDoor
