/- The walk of LexLong. -/
import Derived.Test.YtancjkanmjdkkaaDoorTellsw
import Derived.Test.YtancjkanmjdkkaaDoorShelfr
import Derived.Test.YtancjkanmjdkkaaDoorBackw
import Derived.Lib.QuietBelow
namespace Go.Proofs.YtancjkanmjdkkaaDoor
open Go.RowKit Go.Sort

theorem repeat_blank : ∀ c : Nat, Lib.repeatL [32] c = List.replicate c 32
  | 0 => rfl
  | c + 1 => by
    rw [Lib.repeatL, repeat_blank c, List.replicate_succ]
    rfl

/-- What is told of a text behind blanks. -/
theorem lexA_spaces (bs : Bs) (n : Nat) (h : n + bs.length ≤ 1048576) : (lexA (List.replicate n 32 ++ bs)).2.2 = (lexA bs).2.2 ∧ (lexA (List.replicate n 32 ++ bs)).1.length = (lexA bs).1.length := by
  have h1 : lexA (List.replicate n 32 ++ bs) = lexT (lexL bs n) := by
    rw [lexA, if_neg (by rw [List.length_append, List.length_replicate]; omega), lexL_spaces, Nat.zero_add]
  have h2 : lexA bs = lexT (lexL bs 0) := by rw [lexA, if_neg (by omega)]
  have h3 := lexL_shift n bs 0
  rw [Nat.zero_add] at h3
  rw [h1, h2, h3]
  cases lexL bs 0 with
  | ok l => simp [Res.shift, lexT]
  | error e => simp [Res.shift, lexT]
theorem lexA_long {bs : Bs} (h : 1048576 < bs.length) : lexA bs = ([], 1048576, 13) := by rw [lexA, if_pos h]

set_option maxHeartbeats 4000000 in
set_option maxRecDepth 100000 in
theorem long_walk (s : ByteArray) (more : Bool) (w : World) (hs : s.size ≤ 9223372036854775807) : Calls Tryd.prog 7 #[.string s, .bool more] w fun e w' => e = .returned (.bool true) ∧ Below w.heap.size w w' := by
  have C1 := Lib.hid (fun t W h => lex_any t W h)
  have C2 := Lib.hid (fun t W h => reflex_any t W h)
  have C3 := Lib.hid wakes_true
  obtain ⟨c, hc⟩ : ∃ c : Nat, (1048576 - min (s.size : Int) 100) = (c : Int) := ⟨(1048576 - min (s.size : Int) 100).toNat, by omega⟩
  have hcl : c ≤ 1048576 := by omega
  obtain ⟨R, hR⟩ : ∃ R : ByteArray, (⟨(Lib.repeatL [32] c).toArray⟩ : ByteArray) = R := ⟨_, rfl⟩
  have hbR : bl R = List.replicate c 32 := by
    rw [← hR, ← repeat_blank]
    simp [bl]
  have hRs : R.size = c := by rw [← bl_len, hbR, List.length_replicate]
  have C0 : Hid (∀ d os, Calls Tryd.prog 15 #[.string ⟨#[32]⟩, .int .i64 (c : Nat)] (grow (redrawn w d) os) fun e w'' => e = .returned (.string R) ∧ ∃ p : Regrown, w'' = grow (redrawn w p.d) p.os) := fun d os => by
    have h := Tryd.strings_Repeat ⟨#[32]⟩ c (grow (redrawn w d) os) (by omega) (by show 1 * c ≤ _; omega)
    rw [show (⟨#[32]⟩ : ByteArray).data.toList = [32] from rfl, hR] at h
    exact Calls.regrown_of h
  obtain ⟨x, hx⟩ : ∃ x, s.extract 0 (min (s.size : Int) 100).toNat = x := ⟨_, rfl⟩
  have hxs : (x.size : Int) = min (s.size : Int) 100 := by
    rw [← hx, ByteArray.size_extract]
    omega
  have hcx : c + x.size = 1048576 := by omega
  have HX := Lib.hid (And.intro hxs (And.intro hbR hRs))
  have hxz : x.size ≤ 100 := by omega
  have hRz : R.size ≤ 1048576 := by omega
  clear hR hxs hbR hRs
  go_enter Tryd.func7, Tryd.ntmps7
  go_wp2_with fail
  refine wp_region_quiet_below (by kernel_rfl) (by kernel_rfl) ?_
  repeat (first | go_big_quiet_step ((go_at_call 15; exact C0.out _ _)) | quiet_step ((go_at_call 15; exact C0.out _ _)))
  refine wpQuiet_nil ?_
  intro _ hw'
  obtain ⟨⟨dq, osq⟩, hw''⟩ := hw'
  subst hw''
  have hbq := below_regrown w dq osq
  generalize grow (redrawn w dq) osq = w1 at hbq
  have HB1 := Lib.hid hbq
  clear hbq C0
  obtain ⟨T, hT⟩ : ∃ T, R ++ x = T := ⟨_, rfl⟩
  have hbT : bl T = List.replicate c 32 ++ bl x := by rw [← hT, bl_append, HX.out.2.1]
  have hTs : T.size = 1048576 := by
    rw [← bl_len, hbT, List.length_append, List.length_replicate, bl_len]
    exact hcx
  rw [hT]
  have HBT := Lib.hid hbT
  have HTS := Lib.hid hTs
  have hTz : T.size ≤ 1048576 := by omega
  clear hT hbT hTs HX
  cases more
  · obtain ⟨q1, q2⟩ := lexA_spaces (bl x) c (by rw [bl_len]; omega)
    rw [← HBT.out] at q1 q2
    have hl1 := lexA_len (bl T)
    rw [bl_len] at hl1
    go_wp2_with fail
    refine (C1.out T _ (by omega)).mono ?_
    rintro e w2 ⟨v1, rfl, t1, b1⟩
    obtain ⟨a1, c1, rfl, -⟩ := t1.view
    have HB2 := Lib.hid (HB1.out.trans (b1.mono HB1.out.size))
    rw [q1, q2]
    clear t1 b1 C1 HB1 q1 q2
    go_wp2_with fail
    refine (C2.out x _ (by omega)).mono ?_
    rintro e w3 ⟨v2, rfl, t2, b2⟩
    obtain ⟨a2, c2, rfl, -⟩ := t2.view
    have HB3 := Lib.hid (HB2.out.trans (b2.mono HB2.out.size))
    clear t2 b2 C2 HB2
    generalize (lexA (bl x)).2.2 = E
    generalize (lexA (bl x)).1.length = L
    generalize (lexA (bl x)).2.1 = P
    generalize (lexA (bl T)).2.1 = P'
    go_wp2_with fail
    refine (C3.out _).mono ?_
    rintro e w4 ⟨rfl, b4⟩
    go_wp2_with fail
    go_ret
    exact ⟨rfl, HB3.out.trans (b4.mono HB3.out.size)⟩
  · obtain ⟨Y, hY⟩ : ∃ Y, T ++ (⟨#[120]⟩ : ByteArray) = Y := ⟨_, rfl⟩
    have hYs : Y.size = 1048577 := by
      rw [← hY, ← bl_len, bl_append, List.length_append, bl_len, HTS.out]
      rfl
    have hA : lexA (bl Y) = ([], 1048576, 13) := lexA_long (by rw [bl_len]; omega)
    have CY := Lib.hid (C1.out Y)
    rw [hA] at CY
    have hYz : Y.size ≤ 9223372036854775807 := by omega
    clear hA hYs C1 C2
    go_wp2_with fail
    refine (CY.out _ hYz).mono ?_
    rintro e w2 ⟨v1, rfl, t1, b1⟩
    have HB2 := Lib.hid (HB1.out.trans (b1.mono HB1.out.size))
    clear t1 b1 CY HB1
    go_wp2_with fail
    refine (C3.out _).mono ?_
    rintro e w4 ⟨rfl, b4⟩
    go_wp2_with fail
    go_ret
    exact ⟨rfl, HB2.out.trans (b4.mono HB2.out.size)⟩
end Go.Proofs.YtancjkanmjdkkaaDoor
