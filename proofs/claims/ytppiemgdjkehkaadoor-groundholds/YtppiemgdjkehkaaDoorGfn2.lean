/- Contracts: count, needed, leadsRound, leadsBack. -/
import Derived.Test.YtppiemgdjkehkaaDoorGfn
namespace Go.Proofs.YtppiemgdjkehkaaDoor
open Go.RowKit Go.Sort

theorem sumN_one {f : Nat → Int} {n : Nat} (h : ∀ i, i < n → 0 ≤ f i ∧ f i ≤ 1) : 0 ≤ sumN f n ∧ sumN f n ≤ n := by
  induction n with
  | zero => simp [sumN]
  | succ n ih =>
    have := ih (fun i hi => h i (by omega))
    have := h n (by omega)
    rw [sumN]
    omega
def oneIf (b : Bool) : Int := if b then 1 else 0
theorem count_eq (x : List Int) (v : Int) : countE x v = sumN (fun i => oneIf (x.getD i 0 == v)) x.length := rfl
theorem oneIf_in (b : Bool) : 0 ≤ oneIf b ∧ oneIf b ≤ 1 := by cases b <;> decide

set_option maxHeartbeats 1000000 in
theorem gcount_any (x : Sl) (L : List Int) (v : Int) (w : World) (h : IsInts w x L) :
    Calls Tryd.prog 59 #[.slice x.A x.n x.c, .int .i64 v] w fun e w' => e = .returned (.int .i64 (countE L v)) ∧ w = w' := by
  obtain ⟨A, n, c⟩ := x
  obtain ⟨hn, hL, hlen, hcap⟩ := h
  simp only at hn hL hlen ⊢
  have HL := Lib.hid hL
  have HE : Hid (countE L v = sumN (fun i => oneIf (L.getD i 0 == v)) n) := Lib.hid (by rw [count_eq, hn])
  generalize countE L v = D at HE ⊢
  clear hL hn hcap
  go_enter Tryd.func59, Tryd.ntmps59
  go_wp2_with fail
  go_loopw [5, 10] (fun s i wr => ∃ (k : Nat) (t : Int), s = .int .i64 t ∧ i = .int .i64 (k : Nat) ∧ k ≤ n ∧ Hid (t = sumN (fun i => oneIf (L.getD i 0 == v)) k) ∧ Hid (w = wr)) (fun _ i _ => n - (intOf i).toNat)
  case atStart => exact ⟨0, 0, rfl, rfl, by omega, Lib.hid rfl, Lib.hid rfl⟩
  case round =>
    obtain ⟨k, t, rfl, rfl, hk, HT, HB⟩ := hrel
    by_cases hlt : k < n
    · obtain ⟨ad, rfl, hbk, hcl⟩ := HL.out (by omega)
      have hck : wr.cell? (ad.add k) = some (.int .i64 (L.getD k 0)) := by rw [← HB.out]; exact hcl k hlt
      have hs := sumN_one (f := fun i => oneIf (L.getD i 0 == v)) (n := k) (fun i _ => oneIf_in _)
      rw [← HT.out] at hs
      have HT2 : Hid (t + oneIf (L.getD k 0 == v) = sumN (fun i => oneIf (L.getD i 0 == v)) (k + 1)) := Lib.hid (by rw [HT.out]; rfl)
      have w1 : IntKind.i64.wrap (t + 1) = t + 1 := IntWalk.i64_in _ (by omega)
      clear hcl hbk hs HT
      generalize L.getD k 0 = a at hck HT2
      cases hz : (a == v)
      · rw [hz] at HT2
        have HT3 : Hid (t = sumN (fun i => oneIf (L.getD i 0 == v)) (k + 1)) := Lib.hid (by have := HT2.out; unfold oneIf at this ⊢; simpa using this)
        clear HT2 w1
        go_wp2_with fail
        go_roundw
        case rel => exact ⟨k + 1, _, rfl, by go_num, by omega, HT3, HB⟩
        case measure => simp [intOf]; omega
      · rw [hz] at HT2
        have HT3 : Hid (t + 1 = sumN (fun i => oneIf (L.getD i 0 == v)) (k + 1)) := Lib.hid (by have := HT2.out; unfold oneIf at this ⊢; simpa using this)
        clear HT2
        go_wp2_with fail
        go_roundw
        case rel => exact ⟨k + 1, _, rfl, by go_num, by omega, HT3, HB⟩
        case measure => simp [intOf]; omega
    · have HT2 : Hid (t = D) := Lib.hid (by rw [HE.out, HT.out, show k = n by omega])
      clear HT HE
      go_wp2_with fail
      go_ret
      exact ⟨by rw [← HT2.out]; rfl, HB.out⟩

set_option maxHeartbeats 1000000 in
theorem leadsRound_any (x : Sl) (L : List Int) (w : World) (h : IsInts w x L) (h64 : L.length ≤ 64) :
    Calls Tryd.prog 57 #[.slice x.A x.n x.c] w fun e w' => e = .returned (.bool (roundF L L.length 0 1)) ∧ w = w' := by
  obtain ⟨A, n, c⟩ := x
  obtain ⟨hn, hL, hlen, hcap⟩ := h
  simp only at hn hL hlen ⊢
  have h64n : n ≤ 64 := by omega
  have HL := Lib.hid hL
  have HN := Lib.hid hn
  have HE : Hid (roundF L L.length 0 1 = roundF L (n - 0) 0 1) := Lib.hid (by rw [← hn]; rfl)
  have HP := Lib.hid (fun v w => isPlace_any v (n : Nat) w)
  generalize roundF L L.length 0 1 = D at HE ⊢
  clear hL hn hcap h64
  go_enter Tryd.func57, Tryd.ntmps57
  go_wp2_with fail
  go_loopw [3, 7] (fun s i wr => ∃ (k : Nat) (t : Nat), s = .int .i64 ((t + 1 : Nat) : Int) ∧ i = .int .i64 (k : Nat) ∧ k ≤ n ∧ (k = 0 ∧ t = 0 ∨ t < n) ∧ Hid (D = roundF L (n - k) k ((t + 1 : Nat) : Int)) ∧ Hid (w = wr)) (fun _ i _ => n - (intOf i).toNat)
  case atStart => exact ⟨0, 0, rfl, rfl, by omega, .inl ⟨rfl, rfl⟩, HE, Lib.hid rfl⟩
  case round =>
    obtain ⟨k, t, rfl, rfl, hk, ht, HT, HB⟩ := hrel
    by_cases hlt : k < n
    · have htn : t < n := by omega
      obtain ⟨ad, rfl, hbk, hcl⟩ := HL.out (by omega)
      have hck : wr.cell? (ad.add t) = some (.int .i64 (L.getD t 0)) := by rw [← HB.out]; exact hcl t htn
      have e1 : ((t + 1 : Nat) : Int) - 1 = (t : Nat) := by omega
      have w1 : IntKind.i64.wrap (((t + 1 : Nat) : Int) - 1) = (t : Nat) := by rw [e1]; exact IntWalk.i64_in _ (by omega)
      have w2 : IntKind.i64.wrap (((n : Nat) : Int) - 1) = ((n : Nat) : Int) - 1 := IntWalk.i64_in _ (by omega)
      have HT2 : Hid (D = if placeB (L.getD t 0) (n : Nat) = false then false else if L.getD t 0 = 1 then k + 1 == n else roundF L (n - (k + 1)) (k + 1) (L.getD t 0)) := Lib.hid (by
        rw [HT.out, show n - k = (n - (k + 1)) + 1 by omega, roundF]
        unfold atE
        rw [e1, ← HN.out]
        rfl)
      have HB1 : ((((k : Nat) : Int) == ((n : Nat) : Int) - 1) = (k + 1 == n)) := by rw [Bool.eq_iff_iff]; simp; omega
      clear hcl hbk HT e1 ht
      obtain ⟨T, hT⟩ : ∃ T : Int, T = ((t + 1 : Nat) : Int) := ⟨_, rfl⟩
      rw [← hT] at w1 ⊢
      have htT := Lib.hid hT
      clear hT
      generalize L.getD t 0 = z at hck HT2
      cases hz : placeB z (n : Nat)
      · have HT3 : Hid (D = false) := Lib.hid (by rw [HT2.out, if_pos hz])
        have CP := Lib.hid (HP.out z wr)
        rw [hz] at CP
        clear HT2 HP
        go_wp2_with fail
        refine CP.out.mono ?_
        rintro e w1 ⟨rfl, rfl⟩
        go_wp2_with fail
        go_ret
        exact ⟨by rw [HT3.out]; rfl, HB.out⟩
      · have CP := Lib.hid (HP.out z wr)
        rw [hz] at CP
        have hzz : 1 ≤ z ∧ z ≤ n := by unfold placeB at hz; simpa using hz
        by_cases h1 : z = 1
        · have HT3 : Hid (D = (k + 1 == n)) := Lib.hid (by rw [HT2.out, if_neg (by rw [hz]; decide), if_pos h1])
          have hb1 : (z == 1) = true := by simpa using h1
          clear HT2 HP h1 hzz
          go_wp2_with fail
          refine CP.out.mono ?_
          rintro e w1 ⟨rfl, rfl⟩
          go_wp2_with fail
          go_ret
          exact ⟨ret_bool HT3.out.symm, HB.out⟩
        · have HT3 : Hid (D = roundF L (n - (k + 1)) (k + 1) z) := Lib.hid (by rw [HT2.out, if_neg (by rw [hz]; decide), if_neg h1])
          have hb1 : (z == 1) = false := by simpa using h1
          have HZ : Hid (z = (((z.toNat - 1) + 1 : Nat) : Int) ∧ z.toNat - 1 < n) := Lib.hid (by omega)
          clear HT2 HP h1 hzz
          go_wp2_with fail
          refine CP.out.mono ?_
          rintro e w1 ⟨rfl, rfl⟩
          go_wp2_with fail
          go_roundw
          case rel => exact ⟨k + 1, z.toNat - 1, congrArg _ HZ.out.1, by go_num, by omega, .inr HZ.out.2, Lib.hid (by rw [← HZ.out.1]; exact HT3.out), HB⟩
          case measure => simp [intOf]; omega
    · have HT2 : Hid (D = false) := Lib.hid (by rw [HT.out, show n - k = 0 by omega]; rfl)
      clear HT HE
      go_wp2_with fail
      go_ret
      exact ⟨by rw [HT2.out]; rfl, HB.out⟩

set_option maxHeartbeats 1000000 in
theorem leadsBack_any (x y : Sl) (X Y : List Int) (i : Nat) (w : World) (hx : IsInts w x X) (hy : IsInts w y Y) (hi : i < X.length) :
    Calls Tryd.prog 62 #[.slice x.A x.n x.c, .slice y.A y.n y.c, .int .i64 (i : Nat)] w fun e w' => e = .returned (.bool (backB X Y i)) ∧ w = w' := by
  obtain ⟨A, n, c⟩ := x
  obtain ⟨hn, hL, hlen, hcap⟩ := hx
  obtain ⟨A', n', c'⟩ := y
  obtain ⟨hn', hL', hlen', hcap'⟩ := hy
  simp only at hn hL hlen hn' hL' hlen' ⊢
  obtain ⟨ad, rfl, hbk, hcl⟩ := hL (by omega)
  have hck : w.cell? (ad.add i) = some (.int .i64 (X.getD i 0)) := hcl i (by omega)
  have hin : i < n := by omega
  have HP := Lib.hid (isPlace_any (X.getD i 0) (n' : Nat) w)
  have HD : Hid (backB X Y i = (placeB (X.getD i 0) (n' : Nat) && atE Y (X.getD i 0 - 1) == (i : Int) + 1)) := Lib.hid (by unfold backB; rw [hn'])
  generalize backB X Y i = D at HD ⊢
  have w2 : IntKind.i64.wrap (((i : Nat) : Int) + 1) = ((i : Nat) : Int) + 1 := IntWalk.i64_in _ (by omega)
  generalize X.getD i 0 = z at hck HP HD
  clear hcl hn hi hbk hn'
  cases hz : placeB z (n' : Nat)
  · rw [hz] at HP HD
    have HD2 : Hid (D = false) := Lib.hid (by rw [HD.out]; rfl)
    clear HD
    go_enter Tryd.func62, Tryd.ntmps62
    go_wp2_with fail
    refine HP.out.mono ?_
    rintro e w1 ⟨rfl, rfl⟩
    go_wp2_with fail
    go_ret
    exact ⟨ret_bool HD2.out.symm, rfl⟩
  · rw [hz] at HP HD
    have hzz : 1 ≤ z ∧ z ≤ n' := by unfold placeB at hz; simpa using hz
    obtain ⟨ad', rfl, hbk', hcl'⟩ := hL' (by omega)
    obtain ⟨m, hm⟩ : ∃ m : Nat, z - 1 = (m : Int) := ⟨(z - 1).toNat, by omega⟩
    have hck' : w.cell? (ad'.add m) = some (.int .i64 (Y.getD m 0)) := hcl' m (by omega)
    have hmn : m < n' := by omega
    have w1 : IntKind.i64.wrap (z - 1) = (m : Nat) := by rw [hm]; exact IntWalk.i64_in _ (by omega)
    have HD2 : Hid (D = (Y.getD m 0 == (i : Int) + 1)) := Lib.hid (by rw [HD.out]; unfold atE; rw [hm]; simp)
    generalize Y.getD m 0 = y at hck' HD2
    clear HD hm hz hzz hcl' hbk' hL'
    go_enter Tryd.func62, Tryd.ntmps62
    go_wp2_with fail
    refine HP.out.mono ?_
    rintro e w1 ⟨rfl, rfl⟩
    go_wp2_with fail
    go_ret
    exact ⟨ret_bool HD2.out.symm, rfl⟩
end Go.Proofs.YtppiemgdjkehkaaDoor
