/- The walk of LexNames. -/
import Derived.Test.YtancjkanmjdkkaaDoorTellsw
namespace Go.Proofs.YtancjkanmjdkkaaDoor
open Go.RowKit

/-- Is what is told one token, a word, and the whole text? -/
theorem one_name {bs : Bs} (hl : bs.length ≤ 60) :
    ((lexA bs).2.2 ≠ 0 → nameB bs = false) ∧ ((lexA bs).2.2 = 0 → (lexA bs).1.length ≠ 1 → nameB bs = false) ∧
    (∀ t, (lexA bs).2.2 = 0 → (lexA bs).1 = [t] → t.kind ≠ 1 → nameB bs = false) ∧ (∀ t, (lexA bs).2.2 = 0 → (lexA bs).1 = [t] → t.kind = 1 → t.text ≠ bs → nameB bs = false) ∧
    (∀ t, (lexA bs).2.2 = 0 → (lexA bs).1 = [t] → t.kind = 1 → t.text = bs → nameB bs = decide (bs.length ≤ 32)) := by
  have hA : lexA bs = lexT (lexL bs 0) := by rw [lexA, if_neg (by omega)]
  have hy : nameB bs = true → ∃ t, lexL bs 0 = .ok [t] ∧ t.kind = 1 ∧ t.text = bs := by
    intro h
    simp only [nameB, Bool.and_eq_true, decide_eq_true_eq, beq_iff_eq] at h
    exact name_of.1 ⟨by omega, h.1.2⟩
  have hn : (¬ ∃ t, lexL bs 0 = .ok [t] ∧ t.kind = 1 ∧ t.text = bs) → nameB bs = false := by
    intro h
    cases hb : nameB bs with
    | false => rfl
    | true => exact absurd (hy hb) h
  refine ⟨fun h => hn ?_, fun h h1 => hn ?_, fun t h h1 h2 => hn ?_, fun t h h1 h2 h3 => hn ?_, fun t h h1 h2 h3 => ?_⟩
  · rintro ⟨t, e, -⟩
    rw [hA, e] at h
    exact h rfl
  · rintro ⟨t, e, -⟩
    rw [hA, e] at h1
    exact h1 rfl
  · rintro ⟨u, e, e1, -⟩
    rw [hA, e] at h1
    cases h1
    exact h2 e1
  · rintro ⟨u, e, e1, e2⟩
    rw [hA, e] at h1
    cases h1
    exact h3 e2
  · have hok : lexL bs 0 = .ok [t] := by
      rw [hA] at h h1
      cases hr : lexL bs 0 with
      | ok l =>
        rw [hr] at h1
        exact congrArg _ h1
      | error e =>
        rw [hr] at h1
        cases h1
    obtain ⟨n0, n1⟩ := name_of.2 ⟨t, hok, h2, h3⟩
    unfold nameB
    rw [n1]
    rw [n1] at n0
    have : decide (0 < bs.length) = true := by simpa using Nat.pos_of_ne_zero n0
    rw [this]
    simp

set_option maxHeartbeats 2000000 in
set_option maxRecDepth 100000 in
theorem names_walk (s : ByteArray) (w : World) (hs : s.size ≤ 9223372036854775807) : Calls Tryd.prog 4 #[.string s] w fun e w' => e = .returned (.bool true) ∧ Below w.heap.size w w' := by
  have C0 := Lib.hid (fun t W h => name_any t W h)
  have C1 := Lib.hid (fun t W h => lex_any t W h)
  have C2 := Lib.hid (fun t W h => refName t W h)
  have C3 := Lib.hid wakes_true
  have hsz : (s.extract 0 (min (s.size : Int) 60).toNat).size ≤ 60 := by
    rw [ByteArray.size_extract]
    omega
  go_enter Tryd.func4, Tryd.ntmps4
  go_wp2_with fail
  generalize s.extract 0 (min (s.size : Int) 60).toNat = t at hsz
  generalize min (s.size : Int) 60 = mm
  have HO := Lib.hid (one_name (bs := bl t) (by rw [bl_len]; exact hsz))
  refine (C0.out t _ (by omega)).mono ?_
  rintro e w0 ⟨rfl, b0⟩
  have B0 := Lib.hid b0
  clear b0 C0
  go_wp2_with fail
  refine (C1.out t _ (by omega)).mono ?_
  rintro e w1 ⟨v1, rfl, t1, b1⟩
  have B1 := Lib.hid (B0.out.trans (b1.mono B0.out.size))
  clear b1 C1 B0
  have hT : txt (bl t) = t := txt_bl t
  have HBL := Lib.hid (bl_len t)
  have C2t := Lib.hid (fun W => C2.out t W (by omega))
  clear C2
  generalize nameB (bl t) = N at HO C2t
  by_cases hE : (lexA (bl t)).2.2 = 0
  · have hEb : ((lexA (bl t)).2.2 == 0) = true := by simpa using hE
    by_cases hL : (lexA (bl t)).1.length = 1
    · obtain ⟨u, hu⟩ := List.length_eq_one_iff.1 hL
      obtain ⟨g, cap, rfl, hcap, hg, hcell⟩ := t1.lies (by omega)
      have hcell0 := hcell 0 (by omega)
      have hu0 : (lexA (bl t)).1[0]'(by omega) = u := by
        have : (lexA (bl t)).1[0]? = some u := by rw [hu]; rfl
        exact (List.getElem?_eq_some_iff.1 this).2
      rw [hu0] at hcell0
      obtain ⟨x0, x1, -, -⟩ := hcell0
      have HK := Lib.hid (HO.out.2.2.1 u hE hu)
      have HX := Lib.hid (HO.out.2.2.2.1 u hE hu)
      have HY := Lib.hid (HO.out.2.2.2.2 u hE hu)
      rw [hL] at hcap ⊢
      clear hcell hu0 hu HO t1 hL hE
      generalize (lexA (bl t)).2.2 = E at hEb
      generalize (lexA (bl t)).2.1 = P
      simp only [Nat.zero_mul, Nat.zero_add] at x0 x1
      obtain ⟨kd, hkd⟩ : ∃ kd, u.kind = kd := ⟨_, rfl⟩
      rw [hkd] at x0 HK HX HY
      by_cases hk : kd = 1
      · have hkb : (((kd : Nat) : Int) == 1) = true := by rw [beq_iff_eq]; omega
        have HX2 := Lib.hid (HX.out hk)
        have HY2 := Lib.hid (HY.out hk)
        clear HK HX HY hk hkd
        by_cases ht : u.text = bl t
        · have hN := HY2.out ht
          rw [HBL.out] at hN
          have hxt : txt u.text = t := by rw [ht]; exact hT
          rw [hxt] at x1
          by_cases h32 : t.size ≤ 32
          · obtain rfl : N = true := by rw [hN]; simpa using h32
            have h32b : decide ((t.size : Int) ≤ 32) = true := decide_eq_true (by omega)
            clear HX2 HY2 ht hxt hN hT
            go_wp2_with fail
            refine (C3.out _).mono ?_
            rintro e w3 ⟨rfl, b3⟩
            have B3 := Lib.hid (B1.out.trans (b3.mono B1.out.size))
            clear b3 C3 B1
            go_wp2_with fail
            refine (C2t.out _).mono ?_
            rintro e w4 ⟨rfl, rfl⟩
            go_wp2_with fail
            go_ret
            exact ⟨rfl, B3.out⟩
          · obtain rfl : N = false := by rw [hN]; simpa using h32
            have h32b : decide ((t.size : Int) ≤ 32) = false := decide_eq_false (by omega)
            clear HX2 HY2 ht hxt hN hT
            go_wp2_with fail
            refine (C3.out _).mono ?_
            rintro e w3 ⟨rfl, b3⟩
            have B3 := Lib.hid (B1.out.trans (b3.mono B1.out.size))
            clear b3 C3 B1
            go_wp2_with fail
            refine (C2t.out _).mono ?_
            rintro e w4 ⟨rfl, rfl⟩
            go_wp2_with fail
            go_ret
            exact ⟨rfl, B3.out⟩
        · obtain rfl : N = false := HX2.out ht
          obtain ⟨y, hy⟩ : ∃ y, txt u.text = y := ⟨_, rfl⟩
          have hyt : (y.toList == t.toList) = false := by
            rw [beq_eq_false_iff_ne, ByteArray.toList_eq, ByteArray.toList_eq, ← hy]
            show bl (txt u.text) ≠ bl t
            rw [bl_txt]
            exact ht
          have hyt2 : ¬ y = t := by
            intro e
            rw [e, beq_self_eq_true] at hyt
            cases hyt
          rw [hy] at x1
          clear HX2 HY2 ht hy hT
          go_wp2_with fail
          refine (C3.out _).mono ?_
          rintro e w3 ⟨rfl, b3⟩
          have B3 := Lib.hid (B1.out.trans (b3.mono B1.out.size))
          clear b3 C3 B1
          go_wp2_with fail
          refine (C2t.out _).mono ?_
          rintro e w4 ⟨rfl, rfl⟩
          go_wp2_with fail
          go_ret
          exact ⟨rfl, B3.out⟩
      · obtain rfl : N = false := HK.out hk
        have hkb : (((kd : Nat) : Int) == 1) = false := by rw [beq_eq_false_iff_ne]; omega
        clear HK HX HY hk hkd hT
        go_wp2_with fail
        refine (C3.out _).mono ?_
        rintro e w3 ⟨rfl, b3⟩
        have B3 := Lib.hid (B1.out.trans (b3.mono B1.out.size))
        clear b3 C3 B1
        go_wp2_with fail
        refine (C2t.out _).mono ?_
        rintro e w4 ⟨rfl, rfl⟩
        go_wp2_with fail
        go_ret
        exact ⟨rfl, B3.out⟩
    · obtain rfl : N = false := HO.out.2.1 hE hL
      obtain ⟨a1, c1, rfl, -⟩ := t1.view
      have hLb : ((((lexA (bl t)).1.length : Nat) : Int) == 1) = false := by rw [beq_eq_false_iff_ne]; omega
      clear HO hE t1 hL hT
      generalize (lexA (bl t)).2.2 = E at hEb
      generalize (lexA (bl t)).2.1 = P
      generalize (lexA (bl t)).1.length = L at hLb
      go_wp2_with fail
      refine (C3.out _).mono ?_
      rintro e w3 ⟨rfl, b3⟩
      have B3 := Lib.hid (B1.out.trans (b3.mono B1.out.size))
      clear b3 C3 B1
      go_wp2_with fail
      refine (C2t.out _).mono ?_
      rintro e w4 ⟨rfl, rfl⟩
      go_wp2_with fail
      go_ret
      exact ⟨rfl, B3.out⟩
  · obtain rfl : N = false := HO.out.1 hE
    have hEb : ((lexA (bl t)).2.2 == 0) = false := by simpa using hE
    clear HO hE t1
    generalize (lexA (bl t)).2.2 = E at hEb
    generalize (lexA (bl t)).2.1 = P
    go_wp2_with fail
    refine (C3.out _).mono ?_
    rintro e w3 ⟨rfl, b3⟩
    have B3 := Lib.hid (B1.out.trans (b3.mono B1.out.size))
    clear b3 C3 B1
    go_wp2_with fail
    refine (C2t.out _).mono ?_
    rintro e w4 ⟨rfl, rfl⟩
    go_wp2_with fail
    go_ret
    exact ⟨rfl, B3.out⟩
end Go.Proofs.YtancjkanmjdkkaaDoor
