/- The walk of LexPlaces. -/
import Derived.Test.YtancjkanmjdkkaaDoorTellsw
import Derived.Test.YtancjkanmjdkkaaDoorBackw
import Derived.Test.YtancjkanmjdkkaaDoorEmpty
import Derived.Test.YtancjkanmjdkkaaDoorPlacem
import Derived.Lib.QuietBelow
namespace Go.Proofs.YtancjkanmjdkkaaDoor
open Go.RowKit Go.Sort

theorem slice_two (s : ByteArray) (a b : Nat) (h1 : a ≤ b) (h2 : b ≤ s.size) (W : World) : (Instr.slice 9 (.string s) (some (.int .i64 ((a : Nat) : Int))) (some (.int .i64 ((b : Nat) : Int))) none).run Tryd.prog W = .ok (.string (s.extract a b)) W := by
  rw [run_slice_string W 9 s .i64 .i64 _ _ Tryd.underlying9 (by omega) (by omega) (by omega)]
  congr 3

theorem ok_place {bs : Bs} (hb : bs.length ≤ 1048576) (h : (lexA bs).2.2 = 0) : (lexA bs).2.1 = 0 := by
  have h1 := ok_lex hb h
  rw [lexA, if_neg (by omega), h1]
  rfl

set_option maxHeartbeats 8000000 in
set_option maxRecDepth 100000 in
theorem places_walk (s : ByteArray) (m : Int) (w : World) (hs : s.size ≤ 9223372036854775807) (hm : w.cell? ⟨0, 0, none⟩ = some (.int .i64 m)) :
    Calls Tryd.prog 6 #[.string s] w fun e w' => e = .returned (.bool true) ∧ Below w.heap.size w w' := by
  have C1 := Lib.hid (fun t W h => lex_any t W h)
  have C3 := Lib.hid wakes_true
  have hw0 : 0 < w.heap.size := World.block_lt_of_cell? w _ hm
  have HM := Lib.hid (fun W (hb : Below w.heap.size w W) => (hb.cell (p := ⟨0, 0, none⟩) hw0).trans hm)
  have hsz : (s.extract 0 (min (s.size : Int) 500).toNat).size ≤ 500 := by
    rw [ByteArray.size_extract]
    omega
  clear hm
  go_enter Tryd.func6, Tryd.ntmps6
  go_wp2_with fail
  generalize s.extract 0 (min (s.size : Int) 500).toNat = t at hsz
  generalize min (s.size : Int) 500 = mm
  refine (C1.out t _ (by omega)).mono ?_
  rintro e w1 ⟨v1, rfl, t1, b1⟩
  have B1 := Lib.hid b1
  clear b1
  by_cases hE : (lexA (bl t)).2.2 = 0
  · have hL := ok_lex (by rw [bl_len]; omega) hE
    have hP := ok_place (by rw [bl_len]; omega) hE
    have hEb : ((lexA (bl t)).2.2 != 0) = false := by simpa using hE
    obtain ⟨l, hl⟩ : ∃ l, (lexA (bl t)).1 = l := ⟨_, rfl⟩
    rw [hl] at t1 hL
    have hll : l.length ≤ 500 := by
      have := lexA_len (bl t)
      rw [hl, bl_len] at this
      omega
    rw [hP]
    generalize (lexA (bl t)).2.2 = E at hEb
    obtain ⟨p1, p2, p3, p4⟩ := run_places (lexL_run _ _ _ hL)
    rw [Nat.zero_add, bl_len] at p3
    rw [Nat.sub_zero] at p4
    have HP1 := Lib.hid p1
    have HP4 := Lib.hid p4
    clear hE hl hL hP p1 p2 p4 C1
    obtain ⟨a1, c1, rfl, -⟩ := t1.view
    have T1 := Lib.hid t1
    clear t1
    go_wp2_with fail
    go_loopw [6, 35] (fun x i wr => ∃ k : Nat, k ≤ l.length ∧ i = .int .i64 (k : Nat) ∧ x = .int .i64 ((endP 0 l k : Nat) : Int) ∧ Hid (Below w1.heap.size w1 wr)) (fun _ i _ => meas l.length i)
    case atStart => exact ⟨0, Nat.zero_le _, rfl, by rw [endP_zero]; rfl, Lib.hid (Below.refl _ _)⟩
    case round =>
      obtain ⟨k, hk, rfl, rfl, HB⟩ := hrel
      by_cases hlt : k < l.length
      · obtain ⟨g, c2, he, hcap, hg, hcell⟩ := T1.out.lies (by omega)
        cases he
        obtain ⟨x0, x1, x2, x3⟩ := hcell k hlt
        have x0 := (HB.out.cell (p := ⟨g, _, none⟩) hg).trans x0
        have x1 := (HB.out.cell (p := ⟨g, _, none⟩) hg).trans x1
        have x2 := (HB.out.cell (p := ⟨g, _, none⟩) hg).trans x2
        have x3 := (HB.out.cell (p := ⟨g, _, none⟩) hg).trans x3
        have hS := HP1.out k hlt
        have HE1 := Lib.hid (endP_succ l 0 k hlt)
        obtain ⟨u, hu⟩ : ∃ u, l[k] = u := ⟨_, rfl⟩
        rw [hu] at x0 x1 x2 x3 hS HE1
        clear hcell hu
        obtain ⟨s1, s2, s3, s4, s5, s6⟩ := hS
        rw [Nat.zero_add, bl_len] at s4
        rw [Nat.sub_zero] at s5 s6
        generalize endP 0 l k = ee at *
        obtain ⟨kd, hkd⟩ : ∃ kd, u.kind = kd := ⟨_, rfl⟩
        obtain ⟨nu, hnu⟩ : ∃ nu, u.num = nu := ⟨_, rfl⟩
        obtain ⟨q, hq⟩ : ∃ q, u.at_ = q := ⟨_, rfl⟩
        rw [hkd] at x0
        rw [hnu] at x2
        rw [hq] at x3 s2 s4 s5 s6 HE1
        obtain ⟨tx, htx⟩ : ∃ tx, txt u.text = tx := ⟨_, rfl⟩
        rw [htx] at x1
        have htz : tx.size = u.text.length := by rw [← htx, txt_size]
        rw [← htz] at s4 s5 HE1
        have hsl1 : ∀ W, (Instr.slice 9 (.string t) (some (.int .i64 ((q : Nat) : Int))) (some (.int .i64 (((q : Nat) : Int) + ((tx.size : Nat) : Int)))) none).run Tryd.prog W = .ok (.string tx) W := by
          intro W
          rw [slice_at t q tx.size s4 W]
          congr 2
          apply bl_inj
          rw [bl_extract, Nat.add_sub_cancel_left, s5, ← htx, bl_txt]
        have hsl2 := slice_two t ee q s2 (by omega)
        have hem : emp false (bl (t.extract ee q)) = true := by rw [bl_extract]; exact s6
        have hez : (t.extract ee q).size ≤ 1048576 := by rw [ByteArray.size_extract]; omega
        obtain ⟨Y, hY⟩ : ∃ Y, t.extract ee q = Y := ⟨_, rfl⟩
        rw [hY] at hsl2 hem hez
        have htn : tx.toList.isEmpty = false := by
          rw [ByteArray.toList_eq]
          show (bl tx).isEmpty = false
          rw [← htx, bl_txt]
          cases hh : u.text with
          | nil => exact absurd hh s3
          | cons a b => rfl
        have htn2 : ¬ tx.toList = [] := by
          intro e
          rw [e] at htn
          cases htn
        clear hY s1 s3 s5 s6 hkd hnu hq htx htz
        have hltI : (k : Int) < (l.length : Int) := by omega
        have hq0 : decide (((q : Nat) : Int) < ((ee : Nat) : Int)) = false := decide_eq_false (by omega)
        have hqT : decide (((t.size : Nat) : Int) < ((q : Nat) : Int) + ((tx.size : Nat) : Int)) = false := decide_eq_false (by omega)
        have hq0n : decide (q < ee) = false := decide_eq_false (by omega)
        have hqTn : decide (t.size < q + tx.size) = false := decide_eq_false (by omega)
        obtain ⟨wo, hwo⟩ : ∃ wo, wo = wr := ⟨_, rfl⟩
        rw [← hwo] at HB x0 x1 x2 x3
        rw [← hwo]
        clear hwo
        go_wp2_with fail
        have HBX : Hid (Box 33 (wo.alloc (.cells #[.int .i64 (kd : Nat), .string tx, .int .i64 nu, .int .i64 (q : Nat)] 33)) wo.heap.size (.int .i64 (kd : Nat)) (.string tx) (.int .i64 nu) (.int .i64 (q : Nat))) := Lib.hid (Box.new 33 wo _ _ _ _)
        have HB2 := Lib.hid (HB.out.alloc HB.out.size (.cells #[.int .i64 (kd : Nat), .string tx, .int .i64 nu, .int .i64 (q : Nat)] 33))
        clear x0 x1 x2 x3 HB
        generalize wo.alloc (.cells #[.int .i64 (kd : Nat), .string tx, .int .i64 nu, .int .i64 (q : Nat)] 33) = W0 at HBX HB2 ⊢
        generalize wo.heap.size = bx at HBX ⊢
        have C14 : Hid (∀ d os, Calls Tryd.prog 14 #[.string Y] (grow (redrawn W0 d) os) fun e w'' => e = .returned (.bool true) ∧ ∃ p : Regrown, w'' = grow (redrawn W0 p.d) p.os) := fun d os =>
          Calls.regrown_of (empty_true Y m _ hez (HM.out _ (B1.out.trans ((HB2.out.trans ((below_regrown W0 d os).mono HB2.out.size)).mono B1.out.size))) hem)
        obtain ⟨y0, y1, y2, y3⟩ := HBX.out.cells
        have Y1 := cell_regrown y1
        have Y3 := cell_regrown y3
        clear y0 y1 y2 y3 hem
        refine wp_region_quiet_below (by kernel_rfl) (by kernel_rfl) ?_
        repeat (first | go_big_quiet_step ((go_at_call 14; exact C14.out _ _)) | quiet_step ((go_at_call 14; exact C14.out _ _)))
        refine wpQuiet_nil ?_
        intro _ hw'
        obtain ⟨⟨dq, osq⟩, hw''⟩ := hw'
        subst hw''
        have hbq := below_regrown W0 dq osq
        generalize grow (redrawn W0 dq) osq = W1 at hbq
        have HB3 := Lib.hid (HB2.out.trans (hbq.mono HB2.out.size))
        obtain ⟨z0, z1, z2, z3⟩ := (HBX.out.below hbq).cells
        clear Y1 Y3 hbq HBX HB2 C14 hsl1 hsl2
        go_wp2_with fail
        go_roundw
        case rel => exact ⟨k + 1, by omega, by go_num, by rw [HE1.out]; go_num, HB3⟩
        case measure => simp [meas, intOf]; omega
      · obtain rfl : k = l.length := by omega
        have hem : emp false (bl (t.extract (endP 0 l l.length) t.size)) = true := by
          rw [bl_extract, List.take_of_length_le (by rw [List.length_drop, bl_len]; exact Nat.le_refl _)]
          exact HP4.out
        have hez : (t.extract (endP 0 l l.length) t.size).size ≤ 1048576 := by rw [ByteArray.size_extract]; omega
        have HB2 := Lib.hid (B1.out.trans (HB.out.mono B1.out.size))
        have CE := Lib.hid (fun W (hb : Below w.heap.size w W) => empty_true _ m W hez (HM.out W hb) hem)
        generalize endP 0 l l.length = ee at *
        clear hem hez HP1 HP4 T1 HB B1 HM
        go_wp2_with fail
        refine (C3.out _).mono ?_
        rintro e w3 ⟨rfl, b3⟩
        have HB3 := Lib.hid (HB2.out.trans (b3.mono HB2.out.size))
        clear b3 HB2
        go_wp2_with fail
        refine (CE.out _ HB3.out).mono ?_
        rintro e w4 ⟨rfl, b4⟩
        go_wp2_with fail
        go_ret
        exact ⟨rfl, HB3.out.trans (b4.mono HB3.out.size)⟩
  · have hEb : ((lexA (bl t)).2.2 != 0) = true := by simpa using hE
    have hp := err_place (by rw [bl_len]; omega) hE
    rw [bl_len] at hp
    generalize (lexA (bl t)).2.2 = E at hEb
    generalize (lexA (bl t)).2.1 = P at hp
    clear hE t1 C1
    go_wp2_with fail
    refine (C3.out _).mono ?_
    rintro e w3 ⟨rfl, b3⟩
    go_wp2_with fail
    go_ret
    exact ⟨rfl, B1.out.trans (b3.mono B1.out.size)⟩
end Go.Proofs.YtancjkanmjdkkaaDoor
