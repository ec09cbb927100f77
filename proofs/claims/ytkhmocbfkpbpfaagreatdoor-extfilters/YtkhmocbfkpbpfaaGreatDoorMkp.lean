/- Contracts: first, none, mayBe, sum, count, isPlace, justIf. -/
import Derived.Test.YtkhmocbfkpbpfaaGreatDoorGcon
import Derived.Test.YtkhmocbfkpbpfaaGreatDoorMshapes
import Derived.Test.YtkhmocbfkpbpfaaGreatDoorDBecame
import Derived.Laws.AppendOwn
namespace Go.Proofs.YtkhmocbfkpbpfaaGreatDoor
open Go.RowKit Go.Sort

def noTo (p : Nat → Bool) (k : Nat) : Prop := ∀ j, j < k → p j = false
/-- The first place of which something holds, if there is such. -/
def FirstAt (p : Nat → Bool) (n k : Nat) (b : Bool) : Prop := b = (List.range n).any p ∧ (b = true → k < n ∧ p k = true ∧ noTo p k) ∧ (b = false → k = 0)
theorem firstAt_yes {p : Nat → Bool} {n k : Nat} (hk : k < n) (h : p k = true) (h0 : noTo p k) : FirstAt p n k true :=
  ⟨(List.any_eq_true.2 ⟨k, List.mem_range.2 hk, h⟩).symm, fun _ => ⟨hk, h, h0⟩, (fun q => by cases q)⟩
theorem firstAt_no {p : Nat → Bool} {n : Nat} (h0 : noTo p n) : FirstAt p n 0 false :=
  ⟨(List.any_eq_false.2 (fun x hx => by rw [h0 x (List.mem_range.1 hx)]; simp)).symm, (fun q => by cases q), fun _ => rfl⟩

set_option maxHeartbeats 1000000 in
theorem gfirst_any (g : Nat) (caps : Array Value) (eg : ∀ args w, (callFunc g args).run Tryz.prog w = .ok (.enter g args) w) (p : Nat → Bool) (n : Nat) (hbig : n ≤ 4611686018427387903) (w : World)
    (hp : ∀ (i : Nat), i < n → ∀ (W : World), Below w.heap.size w W → Calls Tryz.prog g (#[.int .i64 (i : Nat)] ++ caps) W fun e w' => e = .returned (.bool (p i)) ∧ Below W.heap.size W w') :
    Calls Tryz.prog 102 #[.int .i64 (n : Nat), .func (.func g) #[] caps] w fun e w' => (∃ (k : Nat) (b : Bool), e = .returned (.tuple #[.int .i64 (k : Nat), .bool b]) ∧ FirstAt p n k b) ∧ Below w.heap.size w w' := by
  have HP := Lib.hid hp
  clear hp
  go_enter Tryz.func102, Tryz.ntmps102
  go_wp2_with fail
  go_loopw [8] (fun i wr => ∃ k : Nat, i = .int .i64 (k : Nat) ∧ k ≤ n ∧ Hid (noTo p k) ∧ Hid (Below w.heap.size w wr)) (fun i _ => n - (intOf i).toNat)
  case atStart => exact ⟨0, rfl, by omega, Lib.hid (fun j hj => absurd hj (by omega)), Lib.hid (Below.refl _ _)⟩
  case round =>
    obtain ⟨k, rfl, hk, H0, HB⟩ := hrel
    by_cases hlt : k < n
    · have HY := Lib.hid (fun q => firstAt_yes (p := p) (n := n) (k := k) hlt q H0.out)
      have HN : Hid (p k = false → noTo p (k + 1)) := Lib.hid (fun e j hj => by
        by_cases h : j < k
        · exact H0.out j h
        · obtain rfl : j = k := by omega
          exact e)
      have cS := Lib.hid (HP.out k hlt wr HB.out)
      cases hz : p k
      · have HN2 := Lib.hid (HN.out hz)
        rw [hz] at cS
        clear HN HY hz
        go_wp2_with fail
        refine cS.out.mono ?_
        rintro e w1 ⟨rfl, b1⟩
        have B1 := Lib.hid (HB.out.trans (b1.mono HB.out.size))
        clear b1
        go_wp2_with fail
        go_roundw
        case rel => exact ⟨k + 1, by go_num, by omega, HN2, B1⟩
        case measure => simp [intOf]; omega
      · have HY2 := Lib.hid (HY.out hz)
        rw [hz] at cS
        clear HN HY hz
        go_wp2_with fail
        refine cS.out.mono ?_
        rintro e w1 ⟨rfl, b1⟩
        have B1 := Lib.hid (HB.out.trans (b1.mono HB.out.size))
        clear b1
        go_wp2_with fail
        exact bodyPost_ret (v := .tuple #[.int .i64 (k : Nat), .bool true]) (by simp [results, Tryz.results102, go_sem]) rfl ⟨⟨_, _, rfl, HY2.out⟩, B1.out⟩
    · have HN : Hid (FirstAt p n 0 false) := Lib.hid (firstAt_no (by have := H0.out; rwa [show k = n by omega] at this))
      clear H0
      go_wp2_with fail
      exact bodyPost_ret (v := .tuple #[.int .i64 0, .bool false]) (by simp [results, Tryz.results102, go_sem]) rfl ⟨⟨0, _, rfl, HN.out⟩, HB.out⟩

theorem gnone_any (g : Nat) (caps : Array Value) (eg : ∀ args w, (callFunc g args).run Tryz.prog w = .ok (.enter g args) w) (p : Nat → Bool) (n : Nat) (hbig : n ≤ 4611686018427387903) (w : World)
    (hp : ∀ (i : Nat), i < n → ∀ (W : World), Below w.heap.size w W → Calls Tryz.prog g (#[.int .i64 (i : Nat)] ++ caps) W fun e w' => e = .returned (.bool (p i)) ∧ Below W.heap.size W w') :
    Calls Tryz.prog 106 #[.int .i64 (n : Nat), .func (.func g) #[] caps] w fun e w' => e = .returned (.bool (noneN p n)) ∧ Below w.heap.size w w' := by
  have C := Lib.hid (gfirst_any g caps eg p n hbig w hp)
  clear hp
  go_enter Tryz.func106, Tryz.ntmps106
  go_wp2_with fail
  refine C.out.mono ?_
  rintro e w1 ⟨⟨k, b, rfl, hf⟩, b1⟩
  have B1 := Lib.hid b1
  have HK : Hid ((!b) = noneN p n) := Lib.hid (by unfold noneN; rw [hf.1])
  clear b1 hf C
  go_wp2_with fail
  go_ret
  exact ⟨ret_bool HK.out, B1.out⟩

theorem none_ints (q : Int → Bool) (L : List Int) : noneN (fun i => q (L.getD i 0)) L.length = !L.any q := by
  unfold noneN
  congr 1
  rw [Bool.eq_iff_iff, List.any_eq_true, List.any_eq_true]
  constructor
  · rintro ⟨i, hi, e⟩
    exact ⟨_, getD_mem L i (List.mem_range.1 hi), e⟩
  · rintro ⟨x, hx, e⟩
    obtain ⟨j, hj, rfl⟩ := List.getElem_of_mem hx
    exact ⟨j, List.mem_range.2 hj, by rw [List.getD_eq_getElem?_getD, List.getElem?_eq_getElem hj]; exact e⟩

theorem eMayBe1 : ∀ args w, (callFunc 161 args).run Tryz.prog w = .ok (.enter 161 args) w := enters_of Tryz.func161 (by kernel_rfl) rfl
theorem mayBe1_any (x : Sl) (L : List Int) (i : Nat) (hi : i < L.length) (a : Addr) (w : World) (hc : w.cell? a = some (.slice x.A x.n x.c)) (h : IsInts w x L) :
    Calls Tryz.prog 161 (#[.int .i64 (i : Nat)] ++ #[.pointer (some a)]) w fun e w' => e = .returned (.bool (outB (-1000000) 1000000 (L.getD i 0))) ∧ Below w.heap.size w w' := by
  show Calls Tryz.prog 161 #[.int .i64 (i : Nat), .pointer (some a)] w _
  obtain ⟨A, n, c⟩ := x
  obtain ⟨hn, hL, hlen, hcap⟩ := h
  simp only at hn hL hlen hc ⊢
  obtain ⟨ad, rfl, hbk, hcl⟩ := hL (by omega)
  have hck : w.cell? (ad.add i) = some (.int .i64 (L.getD i 0)) := hcl i (by omega)
  have hin : i < n := by omega
  clear hcl hn hi hbk
  unfold outB
  generalize L.getD i 0 = z at hck ⊢
  by_cases h0 : z < -1000000
  · have e0 : decide (z < -1000000) = true := by simpa using h0
    clear h0
    go_enter Tryz.func161, Tryz.ntmps161
    go_wp2_with fail
    go_ret
    exact ⟨ret_bool (by simp), Below.refl _ _⟩
  · have e0 : decide (z < -1000000) = false := by simpa using h0
    clear h0
    go_enter Tryz.func161, Tryz.ntmps161
    go_wp2_with fail
    go_ret
    exact ⟨ret_bool (by simp), Below.refl _ _⟩
theorem gmay_any (x : Sl) (L : List Int) (w : World) (h : IsInts w x L) : Calls Tryz.prog 101 #[.slice x.A x.n x.c] w fun e w' => e = .returned (.bool (!L.any (outB (-1000000) 1000000))) ∧ Below w.heap.size w w' := by
  have C : Hid (∀ T, Calls Tryz.prog 106 #[.int .i64 (x.n : Nat), .func (.func 161) #[] #[.pointer (some ⟨w.heap.size, 0, none⟩)]] (w.alloc (.cells #[.slice x.A x.n x.c] T)) fun e w' => e = .returned (.bool (noneN (fun i => outB (-1000000) 1000000 (L.getD i 0)) x.n)) ∧ Below (w.alloc (.cells #[.slice x.A x.n x.c] T)).heap.size (w.alloc (.cells #[.slice x.A x.n x.c] T)) w') := Lib.hid (fun T =>
    gnone_any _ _ eMayBe1 _ _ h.big _ (fun i hi W hW => by
      refine mayBe1_any x L i (by rw [← h.len]; exact hi) _ _ ?_ ((h.below (below1 w _)).below hW)
      rw [hW.cell (by simp)]
      simp))
  have hl := h.len
  rw [hl, none_ints, ← hl] at C
  clear hl
  generalize L.any (outB (-1000000) 1000000) = B at C ⊢
  go_enter Tryz.func101, Tryz.ntmps101
  go_wp2_with fail
  refine (C.out _).mono ?_
  rintro e w1 ⟨rfl, b1⟩
  have B1 := Lib.hid ((below1 w _).trans (b1.mono (by simp)))
  clear b1 C
  go_wp2_with fail
  go_ret
  exact ⟨rfl, B1.out⟩

theorem isPlace_any (v n : Int) (w : World) : Calls Tryz.prog 203 #[.int .i64 v, .int .i64 n] w fun e w' => e = .returned (.bool (placeB v n)) ∧ w = w' := by
  unfold placeB
  by_cases h0 : 1 ≤ v
  · go_enter Tryz.func203, Tryz.ntmps203
    go_wp2_with fail
    go_ret
    exact ⟨ret_bool (by rw [Bool.eq_iff_iff]; simp <;> omega), rfl⟩
  · go_enter Tryz.func203, Tryz.ntmps203
    go_wp2_with fail
    go_ret
    exact ⟨ret_bool (by rw [Bool.eq_iff_iff]; simp <;> omega), rfl⟩
theorem justIf_any (b : Int) (so : Bool) (w : World) : Calls Tryz.prog 241 #[.int .i64 b, .bool so] w fun e w' => e = .returned (.bool (justB b so)) ∧ w = w' := by
  unfold justB
  cases so
  · go_enter Tryz.func241, Tryz.ntmps241
    go_wp2_with fail
    go_ret
    exact ⟨rfl, rfl⟩
  · go_enter Tryz.func241, Tryz.ntmps241
    go_wp2_with fail
    go_ret
    exact ⟨rfl, rfl⟩

/-! sum -/
theorem sumN_abs {f : Nat → Int} {n : Nat} {b : Int} (h : ∀ i, i < n → -b ≤ f i ∧ f i ≤ b) : -(n * b) ≤ sumN f n ∧ sumN f n ≤ n * b := by
  induction n with
  | zero => simp [sumN]
  | succ n ih =>
    have := ih (fun i hi => h i (by omega))
    have := h n (by omega)
    rw [sumN]
    have e : ((n + 1 : Nat) : Int) * b = n * b + b := by rw [Int.natCast_add, Int.add_mul]; simp
    omega
theorem mul_abs {a b : Int} (ha : -1000000 ≤ a ∧ a ≤ 1000000) (hb : -1000000 ≤ b ∧ b ≤ 1000000) : -1000000000000 ≤ a * b ∧ a * b ≤ 1000000000000 := by
  have h1 : (a * b).natAbs ≤ 1000000 * 1000000 := by
    rw [Int.natAbs_mul]
    exact Nat.mul_le_mul (by omega) (by omega)
  omega
theorem getD_in {L : List Int} {lo hi : Int} (h : ∀ v ∈ L, lo ≤ v ∧ v ≤ hi) (h0 : lo ≤ 0 ∧ 0 ≤ hi) (i : Nat) : lo ≤ L.getD i 0 ∧ L.getD i 0 ≤ hi := by
  by_cases hi : i < L.length
  · exact h _ (getD_mem L i hi)
  · rw [List.getD_eq_getElem?_getD, List.getElem?_eq_none (by omega)]
    exact h0

set_option maxHeartbeats 1000000 in
theorem sum_any (x y : Sl) (C X : List Int) (w : World) (hx : IsInts w x C) (hy : IsInts w y X) (hl : C.length = X.length) (h64 : C.length ≤ 64) (hC : ∀ v ∈ C, -1000000 ≤ v ∧ v ≤ 1000000) (hX : ∀ v ∈ X, -1000000 ≤ v ∧ v ≤ 1000000) :
    Calls Tryz.prog 200 #[.slice x.A x.n x.c, .slice y.A y.n y.c] w fun e w' => e = .returned (.int .i64 (dotE C X)) ∧ w = w' := by
  obtain ⟨A, n, c⟩ := x
  obtain ⟨hn, hL, hlen, hcap⟩ := hx
  obtain ⟨A', n', c'⟩ := y
  obtain ⟨hn', hL', hlen', hcap'⟩ := hy
  simp only at hn hL hlen hn' hL' hlen' ⊢
  have h64n : n ≤ 64 := by omega
  have hnn : n' = n := by omega
  subst hnn
  have HL := Lib.hid hL
  have HL' := Lib.hid hL'
  have HC := Lib.hid hC
  have HX := Lib.hid hX
  have HE : Hid (dotE C X = sumN (fun i => C.getD i 0 * X.getD i 0) n') := Lib.hid (by unfold dotE; rw [hn])
  generalize dotE C X = D at HE ⊢
  clear hL hL' hC hX hn hn' hl h64 hcap hcap'
  go_enter Tryz.func200, Tryz.ntmps200
  go_wp2_with fail
  go_loopw [5, 10] (fun s i wr => ∃ (k : Nat) (t : Int), s = .int .i64 t ∧ i = .int .i64 (k : Nat) ∧ k ≤ n' ∧ Hid (t = sumN (fun i => C.getD i 0 * X.getD i 0) k) ∧ Hid (w = wr)) (fun _ i _ => n' - (intOf i).toNat)
  case atStart => exact ⟨0, 0, rfl, rfl, by omega, Lib.hid rfl, Lib.hid rfl⟩
  case round =>
    obtain ⟨k, t, rfl, rfl, hk, HT, HB⟩ := hrel
    by_cases hlt : k < n'
    · obtain ⟨ad, rfl, hbk, hcl⟩ := HL.out (by omega)
      obtain ⟨ad', rfl, hbk', hcl'⟩ := HL'.out (by omega)
      have hck : wr.cell? (ad.add k) = some (.int .i64 (C.getD k 0)) := by rw [← HB.out]; exact hcl k hlt
      have hck' : wr.cell? (ad'.add k) = some (.int .i64 (X.getD k 0)) := by rw [← HB.out]; exact hcl' k hlt
      have hb1 := getD_in HC.out (by omega) k
      have hb2 := getD_in HX.out (by omega) k
      have hm := mul_abs hb1 hb2
      have hs := sumN_abs (f := fun i => C.getD i 0 * X.getD i 0) (n := k) (b := 1000000000000) (fun i hi => mul_abs (getD_in HC.out (by omega) i) (getD_in HX.out (by omega) i))
      rw [← HT.out] at hs
      have HT2 : Hid (t + C.getD k 0 * X.getD k 0 = sumN (fun i => C.getD i 0 * X.getD i 0) (k + 1)) := Lib.hid (by rw [HT.out]; rfl)
      have w1 : IntKind.i64.wrap (C.getD k 0 * X.getD k 0) = C.getD k 0 * X.getD k 0 := IntWalk.i64_in _ (by omega)
      have w2 : IntKind.i64.wrap (t + C.getD k 0 * X.getD k 0) = t + C.getD k 0 * X.getD k 0 := IntWalk.i64_in _ (by omega)
      clear hcl hbk hcl' hbk' hb1 hb2 hm hs HT
      generalize C.getD k 0 = a at hck HT2 w1 w2
      generalize X.getD k 0 = b at hck' HT2 w1 w2
      go_wp2_with fail
      go_roundw
      case rel => exact ⟨k + 1, _, rfl, by go_num, by omega, HT2, HB⟩
      case measure => simp [intOf]; omega
    · have HT2 : Hid (t = D) := Lib.hid (by rw [HE.out, HT.out, show k = n' by omega])
      clear HT HE
      go_wp2_with fail
      go_ret
      exact ⟨by rw [← HT2.out]; rfl, HB.out⟩
end Go.Proofs.YtkhmocbfkpbpfaaGreatDoor

/- Contracts: count, needed, leadsRound, leadsBack. -/
namespace Go.Proofs.YtkhmocbfkpbpfaaGreatDoor
open Go.RowKit Go.Sort

theorem sumN_one {f : Nat → Int} {n : Nat} (h : ∀ i, i < n → 0 ≤ f i ∧ f i ≤ 1) : 0 ≤ sumN f n ∧ sumN f n ≤ n := by
  induction n with
  | zero => simp [sumN]
  | succ n ih =>
    have := ih (fun i hi => h i (by omega))
    have := h n (by omega)
    rw [sumN]
    omega
def oneIf (b : Bool) : Int := if b then 1 else 0
theorem count_eq (x : List Int) (v : Int) : countE x v = sumN (fun i => oneIf (x.getD i 0 == v)) x.length := rfl
theorem oneIf_in (b : Bool) : 0 ≤ oneIf b ∧ oneIf b ≤ 1 := by cases b <;> decide

set_option maxHeartbeats 1000000 in
theorem gcount_any (x : Sl) (L : List Int) (v : Int) (w : World) (h : IsInts w x L) :
    Calls Tryz.prog 211 #[.slice x.A x.n x.c, .int .i64 v] w fun e w' => e = .returned (.int .i64 (countE L v)) ∧ w = w' := by
  obtain ⟨A, n, c⟩ := x
  obtain ⟨hn, hL, hlen, hcap⟩ := h
  simp only at hn hL hlen ⊢
  have HL := Lib.hid hL
  have HE : Hid (countE L v = sumN (fun i => oneIf (L.getD i 0 == v)) n) := Lib.hid (by rw [count_eq, hn])
  generalize countE L v = D at HE ⊢
  clear hL hn hcap
  go_enter Tryz.func211, Tryz.ntmps211
  go_wp2_with fail
  go_loopw [5, 10] (fun s i wr => ∃ (k : Nat) (t : Int), s = .int .i64 t ∧ i = .int .i64 (k : Nat) ∧ k ≤ n ∧ Hid (t = sumN (fun i => oneIf (L.getD i 0 == v)) k) ∧ Hid (w = wr)) (fun _ i _ => n - (intOf i).toNat)
  case atStart => exact ⟨0, 0, rfl, rfl, by omega, Lib.hid rfl, Lib.hid rfl⟩
  case round =>
    obtain ⟨k, t, rfl, rfl, hk, HT, HB⟩ := hrel
    by_cases hlt : k < n
    · obtain ⟨ad, rfl, hbk, hcl⟩ := HL.out (by omega)
      have hck : wr.cell? (ad.add k) = some (.int .i64 (L.getD k 0)) := by rw [← HB.out]; exact hcl k hlt
      have hs := sumN_one (f := fun i => oneIf (L.getD i 0 == v)) (n := k) (fun i _ => oneIf_in _)
      rw [← HT.out] at hs
      have HT2 : Hid (t + oneIf (L.getD k 0 == v) = sumN (fun i => oneIf (L.getD i 0 == v)) (k + 1)) := Lib.hid (by rw [HT.out]; rfl)
      have w1 : IntKind.i64.wrap (t + 1) = t + 1 := IntWalk.i64_in _ (by omega)
      clear hcl hbk hs HT
      generalize L.getD k 0 = a at hck HT2
      cases hz : (a == v)
      · rw [hz] at HT2
        have HT3 : Hid (t = sumN (fun i => oneIf (L.getD i 0 == v)) (k + 1)) := Lib.hid (by have := HT2.out; unfold oneIf at this ⊢; simpa using this)
        clear HT2 w1
        go_wp2_with fail
        go_roundw
        case rel => exact ⟨k + 1, _, rfl, by go_num, by omega, HT3, HB⟩
        case measure => simp [intOf]; omega
      · rw [hz] at HT2
        have HT3 : Hid (t + 1 = sumN (fun i => oneIf (L.getD i 0 == v)) (k + 1)) := Lib.hid (by have := HT2.out; unfold oneIf at this ⊢; simpa using this)
        clear HT2
        go_wp2_with fail
        go_roundw
        case rel => exact ⟨k + 1, _, rfl, by go_num, by omega, HT3, HB⟩
        case measure => simp [intOf]; omega
    · have HT2 : Hid (t = D) := Lib.hid (by rw [HE.out, HT.out, show k = n by omega])
      clear HT HE
      go_wp2_with fail
      go_ret
      exact ⟨by rw [← HT2.out]; rfl, HB.out⟩

set_option maxHeartbeats 1000000 in
theorem leadsRound_any (x : Sl) (L : List Int) (w : World) (h : IsInts w x L) (h64 : L.length ≤ 64) :
    Calls Tryz.prog 209 #[.slice x.A x.n x.c] w fun e w' => e = .returned (.bool (roundF L L.length 0 1)) ∧ w = w' := by
  obtain ⟨A, n, c⟩ := x
  obtain ⟨hn, hL, hlen, hcap⟩ := h
  simp only at hn hL hlen ⊢
  have h64n : n ≤ 64 := by omega
  have HL := Lib.hid hL
  have HN := Lib.hid hn
  have HE : Hid (roundF L L.length 0 1 = roundF L (n - 0) 0 1) := Lib.hid (by rw [← hn]; rfl)
  have HP := Lib.hid (fun v w => isPlace_any v (n : Nat) w)
  generalize roundF L L.length 0 1 = D at HE ⊢
  clear hL hn hcap h64
  go_enter Tryz.func209, Tryz.ntmps209
  go_wp2_with fail
  go_loopw [3, 7] (fun s i wr => ∃ (k : Nat) (t : Nat), s = .int .i64 ((t + 1 : Nat) : Int) ∧ i = .int .i64 (k : Nat) ∧ k ≤ n ∧ (k = 0 ∧ t = 0 ∨ t < n) ∧ Hid (D = roundF L (n - k) k ((t + 1 : Nat) : Int)) ∧ Hid (w = wr)) (fun _ i _ => n - (intOf i).toNat)
  case atStart => exact ⟨0, 0, rfl, rfl, by omega, .inl ⟨rfl, rfl⟩, HE, Lib.hid rfl⟩
  case round =>
    obtain ⟨k, t, rfl, rfl, hk, ht, HT, HB⟩ := hrel
    by_cases hlt : k < n
    · have htn : t < n := by omega
      obtain ⟨ad, rfl, hbk, hcl⟩ := HL.out (by omega)
      have hck : wr.cell? (ad.add t) = some (.int .i64 (L.getD t 0)) := by rw [← HB.out]; exact hcl t htn
      have e1 : ((t + 1 : Nat) : Int) - 1 = (t : Nat) := by omega
      have w1 : IntKind.i64.wrap (((t + 1 : Nat) : Int) - 1) = (t : Nat) := by rw [e1]; exact IntWalk.i64_in _ (by omega)
      have w2 : IntKind.i64.wrap (((n : Nat) : Int) - 1) = ((n : Nat) : Int) - 1 := IntWalk.i64_in _ (by omega)
      have HT2 : Hid (D = if placeB (L.getD t 0) (n : Nat) = false then false else if L.getD t 0 = 1 then k + 1 == n else roundF L (n - (k + 1)) (k + 1) (L.getD t 0)) := Lib.hid (by
        rw [HT.out, show n - k = (n - (k + 1)) + 1 by omega, roundF]
        unfold atE
        rw [e1, ← HN.out]
        rfl)
      have HB1 : ((((k : Nat) : Int) == ((n : Nat) : Int) - 1) = (k + 1 == n)) := by rw [Bool.eq_iff_iff]; simp; omega
      clear hcl hbk HT e1 ht
      obtain ⟨T, hT⟩ : ∃ T : Int, T = ((t + 1 : Nat) : Int) := ⟨_, rfl⟩
      rw [← hT] at w1 ⊢
      have htT := Lib.hid hT
      clear hT
      generalize L.getD t 0 = z at hck HT2
      cases hz : placeB z (n : Nat)
      · have HT3 : Hid (D = false) := Lib.hid (by rw [HT2.out, if_pos hz])
        have CP := Lib.hid (HP.out z wr)
        rw [hz] at CP
        clear HT2 HP
        go_wp2_with fail
        refine CP.out.mono ?_
        rintro e w1 ⟨rfl, rfl⟩
        go_wp2_with fail
        go_ret
        exact ⟨by rw [HT3.out]; rfl, HB.out⟩
      · have CP := Lib.hid (HP.out z wr)
        rw [hz] at CP
        have hzz : 1 ≤ z ∧ z ≤ n := by unfold placeB at hz; simpa using hz
        by_cases h1 : z = 1
        · have HT3 : Hid (D = (k + 1 == n)) := Lib.hid (by rw [HT2.out, if_neg (by rw [hz]; decide), if_pos h1])
          have hb1 : (z == 1) = true := by simpa using h1
          clear HT2 HP h1 hzz
          go_wp2_with fail
          refine CP.out.mono ?_
          rintro e w1 ⟨rfl, rfl⟩
          go_wp2_with fail
          go_ret
          exact ⟨ret_bool HT3.out.symm, HB.out⟩
        · have HT3 : Hid (D = roundF L (n - (k + 1)) (k + 1) z) := Lib.hid (by rw [HT2.out, if_neg (by rw [hz]; decide), if_neg h1])
          have hb1 : (z == 1) = false := by simpa using h1
          have HZ : Hid (z = (((z.toNat - 1) + 1 : Nat) : Int) ∧ z.toNat - 1 < n) := Lib.hid (by omega)
          clear HT2 HP h1 hzz
          go_wp2_with fail
          refine CP.out.mono ?_
          rintro e w1 ⟨rfl, rfl⟩
          go_wp2_with fail
          go_roundw
          case rel => exact ⟨k + 1, z.toNat - 1, congrArg _ HZ.out.1, by go_num, by omega, .inr HZ.out.2, Lib.hid (by rw [← HZ.out.1]; exact HT3.out), HB⟩
          case measure => simp [intOf]; omega
    · have HT2 : Hid (D = false) := Lib.hid (by rw [HT.out, show n - k = 0 by omega]; rfl)
      clear HT HE
      go_wp2_with fail
      go_ret
      exact ⟨by rw [HT2.out]; rfl, HB.out⟩

set_option maxHeartbeats 1000000 in
theorem leadsBack_any (x y : Sl) (X Y : List Int) (i : Nat) (w : World) (hx : IsInts w x X) (hy : IsInts w y Y) (hi : i < X.length) :
    Calls Tryz.prog 214 #[.slice x.A x.n x.c, .slice y.A y.n y.c, .int .i64 (i : Nat)] w fun e w' => e = .returned (.bool (backB X Y i)) ∧ w = w' := by
  obtain ⟨A, n, c⟩ := x
  obtain ⟨hn, hL, hlen, hcap⟩ := hx
  obtain ⟨A', n', c'⟩ := y
  obtain ⟨hn', hL', hlen', hcap'⟩ := hy
  simp only at hn hL hlen hn' hL' hlen' ⊢
  obtain ⟨ad, rfl, hbk, hcl⟩ := hL (by omega)
  have hck : w.cell? (ad.add i) = some (.int .i64 (X.getD i 0)) := hcl i (by omega)
  have hin : i < n := by omega
  have HP := Lib.hid (isPlace_any (X.getD i 0) (n' : Nat) w)
  have HD : Hid (backB X Y i = (placeB (X.getD i 0) (n' : Nat) && atE Y (X.getD i 0 - 1) == (i : Int) + 1)) := Lib.hid (by unfold backB; rw [hn'])
  generalize backB X Y i = D at HD ⊢
  have w2 : IntKind.i64.wrap (((i : Nat) : Int) + 1) = ((i : Nat) : Int) + 1 := IntWalk.i64_in _ (by omega)
  generalize X.getD i 0 = z at hck HP HD
  clear hcl hn hi hbk hn'
  cases hz : placeB z (n' : Nat)
  · rw [hz] at HP HD
    have HD2 : Hid (D = false) := Lib.hid (by rw [HD.out]; rfl)
    clear HD
    go_enter Tryz.func214, Tryz.ntmps214
    go_wp2_with fail
    refine HP.out.mono ?_
    rintro e w1 ⟨rfl, rfl⟩
    go_wp2_with fail
    go_ret
    exact ⟨ret_bool HD2.out.symm, rfl⟩
  · rw [hz] at HP HD
    have hzz : 1 ≤ z ∧ z ≤ n' := by unfold placeB at hz; simpa using hz
    obtain ⟨ad', rfl, hbk', hcl'⟩ := hL' (by omega)
    obtain ⟨m, hm⟩ : ∃ m : Nat, z - 1 = (m : Int) := ⟨(z - 1).toNat, by omega⟩
    have hck' : w.cell? (ad'.add m) = some (.int .i64 (Y.getD m 0)) := hcl' m (by omega)
    have hmn : m < n' := by omega
    have w1 : IntKind.i64.wrap (z - 1) = (m : Nat) := by rw [hm]; exact IntWalk.i64_in _ (by omega)
    have HD2 : Hid (D = (Y.getD m 0 == (i : Int) + 1)) := Lib.hid (by rw [HD.out]; unfold atE; rw [hm]; simp)
    generalize Y.getD m 0 = y at hck' HD2
    clear HD hm hz hzz hcl' hbk' hL'
    go_enter Tryz.func214, Tryz.ntmps214
    go_wp2_with fail
    refine HP.out.mono ?_
    rintro e w1 ⟨rfl, rfl⟩
    go_wp2_with fail
    go_ret
    exact ⟨ret_bool HD2.out.symm, rfl⟩
end Go.Proofs.YtkhmocbfkpbpfaaGreatDoor

/- Contracts: the document's places and numbers: rows of their own, of so many numbers. -/
namespace Go.Proofs.YtkhmocbfkpbpfaaGreatDoor
open Go.RowKit Go.Sort

theorem slice_row {w : World} {base : Nat} {e : TypeId} {size n : Nat} {v : Value} {xs : List Value} (h : w.ownsRow base e size v n xs) : ∃ A c, v = .slice A n c := by
  rcases h.2 with ⟨rfl, rfl⟩ | ⟨g, cap, cur, rfl, _⟩
  · exact ⟨_, _, rfl⟩
  · exact ⟨_, _, rfl⟩
/-- A slice of numbers of some kind. -/
structure IsNs (k : IntKind) (w : World) (x : Sl) (L : List Int) : Prop where
  len : x.n = L.length
  lies : Lies w x.A x.n (fun j => .int k (L.getD j 0))
  big : x.n ≤ 9223372036854775807
  cap : x.n ≤ x.c
theorem IsNs.below {k : IntKind} {w w' : World} {v : Sl} {L : List Int} (h : IsNs k w v L) (hb : Below w.heap.size w w') : IsNs k w' v L := ⟨h.len, h.lies.below hb, h.big, h.cap⟩
/-- So many numbers, by a function. -/
def mkL (f : Nat → Int) (n : Nat) : List Int := (List.range n).map f
theorem mkL_len (f : Nat → Int) (n : Nat) : (mkL f n).length = n := by simp [mkL]
theorem mkL_succ (f : Nat → Int) (n : Nat) : mkL f (n + 1) = mkL f n ++ [f n] := by simp [mkL, List.range_succ]
theorem mkL_all {f : Nat → Int} {n : Nat} {p : Int → Prop} (h : ∀ i, i < n → p (f i)) : ∀ v ∈ mkL f n, p v := by
  intro v hv
  simp only [mkL, List.mem_map, List.mem_range] at hv
  obtain ⟨i, hi, rfl⟩ := hv
  exact h i hi
theorem mkL_getD (f : Nat → Int) {n i : Nat} (h : i < n) : (mkL f n).getD i 0 = f i := by
  rw [List.getD_eq_getElem?_getD, List.getElem?_eq_getElem (by rw [mkL_len]; exact h)]
  simp [mkL]

def plcE (l : List Int) (vars : Int) (i : Nat) : Int := (if i < l.length then l.getD i 0 else (i : Int)).tmod vars
def absIf (least v : Int) : Int := if v < 0 ∧ 0 ≤ least then -v else v
def numE (l : List Int) (fr : Nat) (least wide : Int) (i : Nat) : Int := absIf least ((if fr + i < l.length then l.getD (fr + i) 0 else 1).tmod wide)
theorem getD_in' {L : List Int} {lo hi : Int} (h : ∀ v ∈ L, lo ≤ v ∧ v ≤ hi) {i : Nat} (hi' : i < L.length) : lo ≤ L.getD i 0 ∧ L.getD i 0 ≤ hi := h _ (getD_mem L i hi')
theorem tmod_in (a b : Int) (hb : 1 ≤ b) : -b < a.tmod b ∧ a.tmod b < b := by
  have h := Int.natAbs_tmod a b
  have h2 : a.natAbs % b.natAbs < b.natAbs := Nat.mod_lt _ (by omega)
  generalize a.tmod b = r at *
  rw [← h] at h2
  omega
theorem plc_in {l : List Int} {vars : Int} (hv : 1 ≤ vars) (hl : ∀ v ∈ l, 0 ≤ v ∧ v ≤ 255) (i : Nat) : 0 ≤ plcE l vars i ∧ plcE l vars i < vars := by
  unfold plcE
  refine ⟨Int.tmod_nonneg _ ?_, (tmod_in _ _ hv).2⟩
  split
  · rename_i h; exact (getD_in' hl h).1
  · omega
theorem num_in (l : List Int) (fr : Nat) (least : Int) {wide : Int} (hw : 1 ≤ wide) (i : Nat) : -wide < numE l fr least wide i ∧ numE l fr least wide i < wide ∧ (0 ≤ least → 0 ≤ numE l fr least wide i) := by
  unfold numE absIf
  have := tmod_in (if fr + i < l.length then l.getD (fr + i) 0 else 1) wide hw
  generalize (if fr + i < l.length then l.getD (fr + i) 0 else 1).tmod wide = r at *
  split <;> omega

/-- A row of one's own, of numbers. -/
def Row3 (w : World) (b : Nat) (y : Sl) (L : List Int) : Prop := w.ownsRow b 3 1 (.slice y.A y.n y.c) L.length (I L)
theorem Row3.nil (w : World) (b : Nat) : Row3 w b ⟨none, 0, 0⟩ [] := World.ownsRow_nil _ _ _ _

set_option maxHeartbeats 1000000 in
set_option maxRecDepth 100000 in
theorem mkPlaces_any (x : Sl) (l : List Int) (n : Nat) (vars : Int) (w : World) (h : IsNs .u8 w x l) (hl : ∀ v ∈ l, 0 ≤ v ∧ v ≤ 255) (hv : 1 ≤ vars ∧ vars ≤ 1000000) (hn : n ≤ 1000) :
    Calls Tryz.prog 74 #[.slice x.A x.n x.c, .int .i64 (n : Nat), .int .i64 vars] w fun e w' => (∃ y : Sl, e = .returned (.slice y.A y.n y.c) ∧ Row3 w' w.heap.size y (mkL (plcE l vars) n)) ∧ Below w.heap.size w w' := by
  obtain ⟨A, m, c⟩ := x
  obtain ⟨hlen, hL, hbig, hcap⟩ := h
  simp only at hlen hL hbig ⊢
  have HL := Lib.hid hL
  have HV := Lib.hid (fun i => plc_in hv.1 hl i)
  have HB := Lib.hid hl
  have HN := Lib.hid hlen
  have hv0 : (vars == 0) = false := by simp; omega
  have hv1 : ¬ vars = 0 := by omega
  have HVV := Lib.hid hv
  obtain ⟨i0, hi, hz0, hz1, hz2⟩ := info_parts Tryz.info3
  clear hL hl hv hlen
  go_enter Tryz.func74, Tryz.ntmps74
  go_wp2_with fail
  go_loopw [7, 8] (fun s i wr => ∃ (k : Nat) (y : Sl), s = .slice y.A y.n y.c ∧ i = .int .i64 (k : Nat) ∧ k ≤ n ∧ Hid (wr.ownsRow w.heap.size 3 1 (.slice y.A y.n y.c) k (I (mkL (plcE l vars) k))) ∧ Hid (Below w.heap.size w wr)) (fun _ i _ => n - (intOf i).toNat)
  case atStart => exact ⟨0, ⟨none, 0, 0⟩, rfl, rfl, by omega, Lib.hid (World.ownsRow_nil _ _ _ _), Lib.hid (Below.refl _ _)⟩
  case round =>
    obtain ⟨k, y, rfl, rfl, hk, HO, HB0⟩ := hrel
    by_cases hlt : k < n
    · have HT : Hid (I (mkL (plcE l vars) (k + 1)) = I (mkL (plcE l vars) k) ++ [.int .i64 (plcE l vars k)]) := Lib.hid (by rw [mkL_succ, I_append]; rfl)
      have Z5 := Lib.hid HB0.out.size
      by_cases hkm : k < m
      · obtain ⟨ad, rfl, hbk, hcl⟩ := HL.out (by omega)
        have hck : wr.cell? (ad.add k) = some (.int .u8 (l.getD k 0)) := (HB0.out.cell (by rw [add_block]; exact hbk)).trans (hcl k hkm)
        have hb1 := getD_in' HB.out (i := k) (by rw [← HN.out]; exact hkm)
        have he : Hid (plcE l vars k = (l.getD k 0).tmod vars) := Lib.hid (by unfold plcE; rw [if_pos (by rw [← HN.out]; exact hkm)])
        have hp := HV.out k
        have hvv := HVV.out
        rw [he.out] at HT hp
        generalize l.getD k 0 = z at hck hb1 HT hp
        have w1 : IntKind.i64.wrap z = z := IntWalk.i64_in _ (by omega)
        have w2 : IntKind.i64.wrap (z.tmod vars) = z.tmod vars := IntWalk.i64_in _ (by omega)
        clear hcl hbk he hb1 hp hvv
        go_wp2_with (at_builtin; refine wpList_append_own _ rfl _ _ 30 rfl w.heap.size 3 i0 (.int .i64 0) 1 8 Tryz.underlying30 hi hz0 hz1 hz2 rfl (by decide) _ _ _ rfl (HO.out.alloc _) ⟨_, 0, none⟩ 1 1 [.int .i64 (z.tmod vars)] rfl rfl ?c1 ?c2 ?c3 ?c4 ?c5 ?_)
        case c1 => intro j u hj; match j, hj with | 0, hj => simp at hj; subst hj; simp [Addr.add]
        case c2 => intro u hu; simp at hu; subst hu; rfl
        case c3 => unfold maxLen; omega
        case c4 => omega
        case c5 => have := Z5.out; simp; omega
        intro v' w7 hown' hgrow _
        have HB7 := Lib.hid ((HB0.out.alloc HB0.out.size _).grown hgrow (by have := HB0.out.size; simp; omega) (own_ge HO.out))
        rw [← HT.out] at hown'
        obtain ⟨Y, kY, rfl⟩ := slice_row hown'
        have HO7 := Lib.hid hown'
        clear hown' hgrow HO HB0 hck
        go_wp2_with fail
        go_roundw
        case rel => exact ⟨k + 1, ⟨Y, _, kY⟩, rfl, by go_num, by omega, HO7, HB7⟩
        case measure => simp [intOf]; omega
      · have he : Hid (plcE l vars k = ((k : Nat) : Int) % vars) := Lib.hid (by unfold plcE; rw [if_neg (by rw [← HN.out]; exact hkm), Int.tmod_eq_emod_of_nonneg (by omega)])
        have hp := HV.out k
        have hvv := HVV.out
        rw [he.out] at HT hp
        have w2 : IntKind.i64.wrap (((k : Nat) : Int) % vars) = ((k : Nat) : Int) % vars := IntWalk.i64_in _ (by omega)
        clear he hp hvv
        go_wp2_with (at_builtin; refine wpList_append_own _ rfl _ _ 30 rfl w.heap.size 3 i0 (.int .i64 0) 1 8 Tryz.underlying30 hi hz0 hz1 hz2 rfl (by decide) _ _ _ rfl (HO.out.alloc _) ⟨_, 0, none⟩ 1 1 [.int .i64 (((k : Nat) : Int) % vars)] rfl rfl ?c1 ?c2 ?c3 ?c4 ?c5 ?_)
        case c1 => intro j u hj; match j, hj with | 0, hj => simp at hj; subst hj; simp [Addr.add]
        case c2 => intro u hu; simp at hu; subst hu; rfl
        case c3 => unfold maxLen; omega
        case c4 => omega
        case c5 => have := Z5.out; simp; omega
        intro v' w7 hown' hgrow _
        have HB7 := Lib.hid ((HB0.out.alloc HB0.out.size _).grown hgrow (by have := HB0.out.size; simp; omega) (own_ge HO.out))
        rw [← HT.out] at hown'
        obtain ⟨Y, kY, rfl⟩ := slice_row hown'
        have HO7 := Lib.hid hown'
        clear hown' hgrow HO HB0
        go_wp2_with fail
        go_roundw
        case rel => exact ⟨k + 1, ⟨Y, _, kY⟩, rfl, by go_num, by omega, HO7, HB7⟩
        case measure => simp [intOf]; omega
    · have HO2 : Hid (Row3 wr w.heap.size y (mkL (plcE l vars) n)) := Lib.hid (by have := HO.out; rw [show k = n by omega] at this; unfold Row3; rw [mkL_len]; exact this)
      clear HO
      go_wp2_with fail
      go_ret
      exact ⟨⟨y, rfl, HO2.out⟩, HB0.out⟩
set_option maxHeartbeats 1000000 in
set_option maxRecDepth 100000 in
theorem mkNumbers_any (x : Sl) (l : List Int) (fr n : Nat) (least wide : Int) (w : World) (h : IsNs .i8 w x l) (hl : ∀ v ∈ l, -128 ≤ v ∧ v ≤ 127) (hw : 1 ≤ wide ∧ wide ≤ 100) (hn : n ≤ 1000) (hf : fr ≤ 100000) :
    Calls Tryz.prog 75 #[.slice x.A x.n x.c, .int .i64 (fr : Nat), .int .i64 (n : Nat), .int .i64 least, .int .i64 wide] w fun e w' => (∃ y : Sl, e = .returned (.slice y.A y.n y.c) ∧ Row3 w' w.heap.size y (mkL (numE l fr least wide) n)) ∧ Below w.heap.size w w' := by
  obtain ⟨A, m, c⟩ := x
  obtain ⟨hlen, hL, hbig, hcap⟩ := h
  simp only at hlen hL hbig ⊢
  have HL := Lib.hid hL
  have HB := Lib.hid hl
  have HN := Lib.hid hlen
  have hv0 : (wide == 0) = false := by simp; omega
  have hv1 : ¬ wide = 0 := by omega
  have HVV := Lib.hid hw
  obtain ⟨i0, hi, hz0, hz1, hz2⟩ := info_parts Tryz.info3
  clear hL hl hw hlen
  go_enter Tryz.func75, Tryz.ntmps75
  go_wp2_with fail
  go_loopw [11, 12] (fun s i wr => ∃ (k : Nat) (y : Sl), s = .slice y.A y.n y.c ∧ i = .int .i64 (k : Nat) ∧ k ≤ n ∧ Hid (wr.ownsRow w.heap.size 3 1 (.slice y.A y.n y.c) k (I (mkL (numE l fr least wide) k))) ∧ Hid (Below w.heap.size w wr)) (fun _ i _ => n - (intOf i).toNat)
  case atStart => exact ⟨0, ⟨none, 0, 0⟩, rfl, rfl, by omega, Lib.hid (World.ownsRow_nil _ _ _ _), Lib.hid (Below.refl _ _)⟩
  case round =>
    obtain ⟨k, y, rfl, rfl, hk, HO, HB0⟩ := hrel
    by_cases hlt : k < n
    · have HT : Hid (I (mkL (numE l fr least wide) (k + 1)) = I (mkL (numE l fr least wide) k) ++ [.int .i64 (numE l fr least wide k)]) := Lib.hid (by rw [mkL_succ, I_append]; rfl)
      have Z5 := Lib.hid HB0.out.size
      have hcomp : Hid (fr + k = fr + k) := Lib.hid rfl
      obtain ⟨q, hq⟩ : ∃ q, q = fr + k := ⟨_, rfl⟩
      have HQ := Lib.hid hq
      have ws : IntKind.i64.wrap ((fr : Int) + (k : Int)) = ((q : Nat) : Int) := by rw [hq, ← Int.natCast_add]; exact IntWalk.i64_in _ (by omega)
      have hq6 : q ≤ 1000000 := by omega
      clear hq hcomp
      go_upto_if 24 with fail
      go_cut [13] (fun a wx => a = .int .i64 (if q < l.length then l.getD q 0 else 1) ∧ wr = wx)
      case first =>
        by_cases hkm : q < m
        · obtain ⟨ad, rfl, hbk, hcl⟩ := HL.out (by omega)
          have hck : wr.cell? (ad.add q) = some (.int .i8 (l.getD q 0)) := (HB0.out.cell (by rw [add_block]; exact hbk)).trans (hcl q hkm)
          have hb1 := getD_in' HB.out (i := q) (by rw [← HN.out]; exact hkm)
          obtain ⟨z, hz⟩ : ∃ z, z = l.getD q 0 := ⟨_, rfl⟩
          have E : Hid ((if q < l.length then l.getD q 0 else 1) = z) := Lib.hid (by rw [hz]; exact if_pos (by rw [← HN.out]; exact hkm))
          rw [← hz] at hck hb1
          clear hz
          have w1 : IntKind.i64.wrap z = z := IntWalk.i64_in _ (by omega)
          clear hcl hbk hb1
          go_wp2_with fail
          go_meet
          case rel => exact ⟨by rw [E.out], by first | rfl | trivial⟩
        · have E : Hid ((if q < l.length then l.getD q 0 else 1) = 1) := Lib.hid (if_neg (by rw [← HN.out]; exact hkm))
          go_wp2_with fail
          go_meet
          case rel => exact ⟨by rw [E.out], by first | rfl | trivial⟩
      case rest =>
        obtain ⟨rfl, rfl⟩ := hcut
        have he : Hid (numE l fr least wide k = absIf least ((if q < l.length then l.getD q 0 else 1).tmod wide)) := Lib.hid (by rw [HQ.out]; rfl)
        have hp := tmod_in (if q < l.length then l.getD q 0 else 1) wide HVV.out.1
        have hvv := HVV.out
        rw [he.out] at HT
        generalize (if q < l.length then l.getD q 0 else 1) = z at *
        have w2 : IntKind.i64.wrap (z.tmod wide) = z.tmod wide := IntWalk.i64_in _ (by omega)
        have w3 : IntKind.i64.wrap (-(z.tmod wide)) = -(z.tmod wide) := IntWalk.i64_in _ (by omega)
        clear hp hvv he
        by_cases h1 : z.tmod wide < 0
        · have e1 : decide (z.tmod wide < 0) = true := by simpa using h1
          by_cases h2 : 0 ≤ least
          · have e2 : decide (0 ≤ least) = true := by simpa using h2
            have HT2 : Hid (absIf least (z.tmod wide) = -(z.tmod wide)) := Lib.hid (by unfold absIf; rw [if_pos ⟨h1, h2⟩])
            rw [HT2.out] at HT
            clear HT2 h1 h2
            go_wp2_with (at_builtin; refine wpList_append_own _ rfl _ _ 30 rfl w.heap.size 3 i0 (.int .i64 0) 1 8 Tryz.underlying30 hi hz0 hz1 hz2 rfl (by decide) _ _ _ rfl (HO.out.alloc _) ⟨_, 0, none⟩ 1 1 [.int .i64 (-(z.tmod wide))] rfl rfl ?c1 ?c2 ?c3 ?c4 ?c5 ?_)
            case c1 => intro j u hj; match j, hj with | 0, hj => simp at hj; subst hj; simp [Addr.add]
            case c2 => intro u hu; simp at hu; subst hu; rfl
            case c3 => unfold maxLen; omega
            case c4 => omega
            case c5 => have := Z5.out; simp; omega
            intro v' w7 hown' hgrow _
            have HB7 := Lib.hid ((HB0.out.alloc HB0.out.size _).grown hgrow (by have := HB0.out.size; simp; omega) (own_ge HO.out))
            rw [← HT.out] at hown'
            obtain ⟨Y, kY, rfl⟩ := slice_row hown'
            have HO7 := Lib.hid hown'
            clear hown' hgrow HO HB0
            go_wp2_with fail
            go_roundw
            case rel => exact ⟨k + 1, ⟨Y, _, kY⟩, rfl, by go_num, by omega, HO7, HB7⟩
            case measure => simp [intOf]; omega
          · have e2 : decide (0 ≤ least) = false := by simpa using h2
            have HT2 : Hid (absIf least (z.tmod wide) = z.tmod wide) := Lib.hid (by unfold absIf; rw [if_neg (fun q => h2 q.2)])
            rw [HT2.out] at HT
            clear HT2 h1 h2
            go_wp2_with (at_builtin; refine wpList_append_own _ rfl _ _ 30 rfl w.heap.size 3 i0 (.int .i64 0) 1 8 Tryz.underlying30 hi hz0 hz1 hz2 rfl (by decide) _ _ _ rfl (HO.out.alloc _) ⟨_, 0, none⟩ 1 1 [.int .i64 (z.tmod wide)] rfl rfl ?c1 ?c2 ?c3 ?c4 ?c5 ?_)
            case c1 => intro j u hj; match j, hj with | 0, hj => simp at hj; subst hj; simp [Addr.add]
            case c2 => intro u hu; simp at hu; subst hu; rfl
            case c3 => unfold maxLen; omega
            case c4 => omega
            case c5 => have := Z5.out; simp; omega
            intro v' w7 hown' hgrow _
            have HB7 := Lib.hid ((HB0.out.alloc HB0.out.size _).grown hgrow (by have := HB0.out.size; simp; omega) (own_ge HO.out))
            rw [← HT.out] at hown'
            obtain ⟨Y, kY, rfl⟩ := slice_row hown'
            have HO7 := Lib.hid hown'
            clear hown' hgrow HO HB0
            go_wp2_with fail
            go_roundw
            case rel => exact ⟨k + 1, ⟨Y, _, kY⟩, rfl, by go_num, by omega, HO7, HB7⟩
            case measure => simp [intOf]; omega
        · have e1 : decide (z.tmod wide < 0) = false := by simpa using h1
          by_cases h2 : 0 ≤ least
          · skip
            have HT2 : Hid (absIf least (z.tmod wide) = z.tmod wide) := Lib.hid (by unfold absIf; rw [if_neg (fun q => h1 q.1)])
            rw [HT2.out] at HT
            clear HT2 h1 h2
            go_wp2_with (at_builtin; refine wpList_append_own _ rfl _ _ 30 rfl w.heap.size 3 i0 (.int .i64 0) 1 8 Tryz.underlying30 hi hz0 hz1 hz2 rfl (by decide) _ _ _ rfl (HO.out.alloc _) ⟨_, 0, none⟩ 1 1 [.int .i64 (z.tmod wide)] rfl rfl ?c1 ?c2 ?c3 ?c4 ?c5 ?_)
            case c1 => intro j u hj; match j, hj with | 0, hj => simp at hj; subst hj; simp [Addr.add]
            case c2 => intro u hu; simp at hu; subst hu; rfl
            case c3 => unfold maxLen; omega
            case c4 => omega
            case c5 => have := Z5.out; simp; omega
            intro v' w7 hown' hgrow _
            have HB7 := Lib.hid ((HB0.out.alloc HB0.out.size _).grown hgrow (by have := HB0.out.size; simp; omega) (own_ge HO.out))
            rw [← HT.out] at hown'
            obtain ⟨Y, kY, rfl⟩ := slice_row hown'
            have HO7 := Lib.hid hown'
            clear hown' hgrow HO HB0
            go_wp2_with fail
            go_roundw
            case rel => exact ⟨k + 1, ⟨Y, _, kY⟩, rfl, by go_num, by omega, HO7, HB7⟩
            case measure => simp [intOf]; omega
          · skip
            have HT2 : Hid (absIf least (z.tmod wide) = z.tmod wide) := Lib.hid (by unfold absIf; rw [if_neg (fun q => h1 q.1)])
            rw [HT2.out] at HT
            clear HT2 h1 h2
            go_wp2_with (at_builtin; refine wpList_append_own _ rfl _ _ 30 rfl w.heap.size 3 i0 (.int .i64 0) 1 8 Tryz.underlying30 hi hz0 hz1 hz2 rfl (by decide) _ _ _ rfl (HO.out.alloc _) ⟨_, 0, none⟩ 1 1 [.int .i64 (z.tmod wide)] rfl rfl ?c1 ?c2 ?c3 ?c4 ?c5 ?_)
            case c1 => intro j u hj; match j, hj with | 0, hj => simp at hj; subst hj; simp [Addr.add]
            case c2 => intro u hu; simp at hu; subst hu; rfl
            case c3 => unfold maxLen; omega
            case c4 => omega
            case c5 => have := Z5.out; simp; omega
            intro v' w7 hown' hgrow _
            have HB7 := Lib.hid ((HB0.out.alloc HB0.out.size _).grown hgrow (by have := HB0.out.size; simp; omega) (own_ge HO.out))
            rw [← HT.out] at hown'
            obtain ⟨Y, kY, rfl⟩ := slice_row hown'
            have HO7 := Lib.hid hown'
            clear hown' hgrow HO HB0
            go_wp2_with fail
            go_roundw
            case rel => exact ⟨k + 1, ⟨Y, _, kY⟩, rfl, by go_num, by omega, HO7, HB7⟩
            case measure => simp [intOf]; omega
    · have HO2 : Hid (Row3 wr w.heap.size y (mkL (numE l fr least wide) n)) := Lib.hid (by have := HO.out; rw [show k = n by omega] at this; unfold Row3; rw [mkL_len]; exact this)
      clear HO
      go_wp2_with fail
      go_ret
      exact ⟨⟨y, rfl, HO2.out⟩, HB0.out⟩
end Go.Proofs.YtkhmocbfkpbpfaaGreatDoor
