/- Contracts: first, none, mayBe, sum, count, isPlace, justIf. -/
import Derived.Test.YtppiemgdjkehkaaDoorGcon
namespace Go.Proofs.YtppiemgdjkehkaaDoor
open Go.RowKit Go.Sort

def noTo (p : Nat → Bool) (k : Nat) : Prop := ∀ j, j < k → p j = false
/-- The first place of which something holds, if there is such. -/
def FirstAt (p : Nat → Bool) (n k : Nat) (b : Bool) : Prop := b = (List.range n).any p ∧ (b = true → k < n ∧ p k = true ∧ noTo p k) ∧ (b = false → k = 0)
theorem firstAt_yes {p : Nat → Bool} {n k : Nat} (hk : k < n) (h : p k = true) (h0 : noTo p k) : FirstAt p n k true :=
  ⟨(List.any_eq_true.2 ⟨k, List.mem_range.2 hk, h⟩).symm, fun _ => ⟨hk, h, h0⟩, (fun q => by cases q)⟩
theorem firstAt_no {p : Nat → Bool} {n : Nat} (h0 : noTo p n) : FirstAt p n 0 false :=
  ⟨(List.any_eq_false.2 (fun x hx => by rw [h0 x (List.mem_range.1 hx)]; simp)).symm, (fun q => by cases q), fun _ => rfl⟩

set_option maxHeartbeats 1000000 in
theorem gfirst_any (g : Nat) (caps : Array Value) (eg : ∀ args w, (callFunc g args).run Tryd.prog w = .ok (.enter g args) w) (p : Nat → Bool) (n : Nat) (hbig : n ≤ 4611686018427387903) (w : World)
    (hp : ∀ (i : Nat), i < n → ∀ (W : World), Below w.heap.size w W → Calls Tryd.prog g (#[.int .i64 (i : Nat)] ++ caps) W fun e w' => e = .returned (.bool (p i)) ∧ Below W.heap.size W w') :
    Calls Tryd.prog 40 #[.int .i64 (n : Nat), .func (.func g) #[] caps] w fun e w' => (∃ (k : Nat) (b : Bool), e = .returned (.tuple #[.int .i64 (k : Nat), .bool b]) ∧ FirstAt p n k b) ∧ Below w.heap.size w w' := by
  have HP := Lib.hid hp
  clear hp
  go_enter Tryd.func40, Tryd.ntmps40
  go_wp2_with fail
  go_loopw [8] (fun i wr => ∃ k : Nat, i = .int .i64 (k : Nat) ∧ k ≤ n ∧ Hid (noTo p k) ∧ Hid (Below w.heap.size w wr)) (fun i _ => n - (intOf i).toNat)
  case atStart => exact ⟨0, rfl, by omega, Lib.hid (fun j hj => absurd hj (by omega)), Lib.hid (Below.refl _ _)⟩
  case round =>
    obtain ⟨k, rfl, hk, H0, HB⟩ := hrel
    by_cases hlt : k < n
    · have HY := Lib.hid (fun q => firstAt_yes (p := p) (n := n) (k := k) hlt q H0.out)
      have HN : Hid (p k = false → noTo p (k + 1)) := Lib.hid (fun e j hj => by
        by_cases h : j < k
        · exact H0.out j h
        · obtain rfl : j = k := by omega
          exact e)
      have cS := Lib.hid (HP.out k hlt wr HB.out)
      cases hz : p k
      · have HN2 := Lib.hid (HN.out hz)
        rw [hz] at cS
        clear HN HY hz
        go_wp2_with fail
        refine cS.out.mono ?_
        rintro e w1 ⟨rfl, b1⟩
        have B1 := Lib.hid (HB.out.trans (b1.mono HB.out.size))
        clear b1
        go_wp2_with fail
        go_roundw
        case rel => exact ⟨k + 1, by go_num, by omega, HN2, B1⟩
        case measure => simp [intOf]; omega
      · have HY2 := Lib.hid (HY.out hz)
        rw [hz] at cS
        clear HN HY hz
        go_wp2_with fail
        refine cS.out.mono ?_
        rintro e w1 ⟨rfl, b1⟩
        have B1 := Lib.hid (HB.out.trans (b1.mono HB.out.size))
        clear b1
        go_wp2_with fail
        exact bodyPost_ret (v := .tuple #[.int .i64 (k : Nat), .bool true]) (by simp [results, Tryd.results40, go_sem]) rfl ⟨⟨_, _, rfl, HY2.out⟩, B1.out⟩
    · have HN : Hid (FirstAt p n 0 false) := Lib.hid (firstAt_no (by have := H0.out; rwa [show k = n by omega] at this))
      clear H0
      go_wp2_with fail
      exact bodyPost_ret (v := .tuple #[.int .i64 0, .bool false]) (by simp [results, Tryd.results40, go_sem]) rfl ⟨⟨0, _, rfl, HN.out⟩, HB.out⟩

theorem gnone_any (g : Nat) (caps : Array Value) (eg : ∀ args w, (callFunc g args).run Tryd.prog w = .ok (.enter g args) w) (p : Nat → Bool) (n : Nat) (hbig : n ≤ 4611686018427387903) (w : World)
    (hp : ∀ (i : Nat), i < n → ∀ (W : World), Below w.heap.size w W → Calls Tryd.prog g (#[.int .i64 (i : Nat)] ++ caps) W fun e w' => e = .returned (.bool (p i)) ∧ Below W.heap.size W w') :
    Calls Tryd.prog 24 #[.int .i64 (n : Nat), .func (.func g) #[] caps] w fun e w' => e = .returned (.bool (noneN p n)) ∧ Below w.heap.size w w' := by
  have C := Lib.hid (gfirst_any g caps eg p n hbig w hp)
  clear hp
  go_enter Tryd.func24, Tryd.ntmps24
  go_wp2_with fail
  refine C.out.mono ?_
  rintro e w1 ⟨⟨k, b, rfl, hf⟩, b1⟩
  have B1 := Lib.hid b1
  have HK : Hid ((!b) = noneN p n) := Lib.hid (by unfold noneN; rw [hf.1])
  clear b1 hf C
  go_wp2_with fail
  go_ret
  exact ⟨ret_bool HK.out, B1.out⟩

theorem none_ints (q : Int → Bool) (L : List Int) : noneN (fun i => q (L.getD i 0)) L.length = !L.any q := by
  unfold noneN
  congr 1
  rw [Bool.eq_iff_iff, List.any_eq_true, List.any_eq_true]
  constructor
  · rintro ⟨i, hi, e⟩
    exact ⟨_, getD_mem L i (List.mem_range.1 hi), e⟩
  · rintro ⟨x, hx, e⟩
    obtain ⟨j, hj, rfl⟩ := List.getElem_of_mem hx
    exact ⟨j, List.mem_range.2 hj, by rw [List.getD_eq_getElem?_getD, List.getElem?_eq_getElem hj]; exact e⟩

theorem eMayBe1 : ∀ args w, (callFunc 25 args).run Tryd.prog w = .ok (.enter 25 args) w := enters_of Tryd.func25 (by kernel_rfl) rfl
theorem mayBe1_any (x : Sl) (L : List Int) (i : Nat) (hi : i < L.length) (a : Addr) (w : World) (hc : w.cell? a = some (.slice x.A x.n x.c)) (h : IsInts w x L) :
    Calls Tryd.prog 25 (#[.int .i64 (i : Nat)] ++ #[.pointer (some a)]) w fun e w' => e = .returned (.bool (outB (-1000000) 1000000 (L.getD i 0))) ∧ Below w.heap.size w w' := by
  show Calls Tryd.prog 25 #[.int .i64 (i : Nat), .pointer (some a)] w _
  obtain ⟨A, n, c⟩ := x
  obtain ⟨hn, hL, hlen, hcap⟩ := h
  simp only at hn hL hlen hc ⊢
  obtain ⟨ad, rfl, hbk, hcl⟩ := hL (by omega)
  have hck : w.cell? (ad.add i) = some (.int .i64 (L.getD i 0)) := hcl i (by omega)
  have hin : i < n := by omega
  clear hcl hn hi hbk
  unfold outB
  generalize L.getD i 0 = z at hck ⊢
  by_cases h0 : z < -1000000
  · have e0 : decide (z < -1000000) = true := by simpa using h0
    clear h0
    go_enter Tryd.func25, Tryd.ntmps25
    go_wp2_with fail
    go_ret
    exact ⟨ret_bool (by simp), Below.refl _ _⟩
  · have e0 : decide (z < -1000000) = false := by simpa using h0
    clear h0
    go_enter Tryd.func25, Tryd.ntmps25
    go_wp2_with fail
    go_ret
    exact ⟨ret_bool (by simp), Below.refl _ _⟩
theorem gmay_any (x : Sl) (L : List Int) (w : World) (h : IsInts w x L) : Calls Tryd.prog 20 #[.slice x.A x.n x.c] w fun e w' => e = .returned (.bool (!L.any (outB (-1000000) 1000000))) ∧ Below w.heap.size w w' := by
  have C : Hid (∀ T, Calls Tryd.prog 24 #[.int .i64 (x.n : Nat), .func (.func 25) #[] #[.pointer (some ⟨w.heap.size, 0, none⟩)]] (w.alloc (.cells #[.slice x.A x.n x.c] T)) fun e w' => e = .returned (.bool (noneN (fun i => outB (-1000000) 1000000 (L.getD i 0)) x.n)) ∧ Below (w.alloc (.cells #[.slice x.A x.n x.c] T)).heap.size (w.alloc (.cells #[.slice x.A x.n x.c] T)) w') := Lib.hid (fun T =>
    gnone_any _ _ eMayBe1 _ _ h.big _ (fun i hi W hW => by
      refine mayBe1_any x L i (by rw [← h.len]; exact hi) _ _ ?_ ((h.below (below1 w _)).below hW)
      rw [hW.cell (by simp)]
      simp))
  have hl := h.len
  rw [hl, none_ints, ← hl] at C
  clear hl
  generalize L.any (outB (-1000000) 1000000) = B at C ⊢
  go_enter Tryd.func20, Tryd.ntmps20
  go_wp2_with fail
  refine (C.out _).mono ?_
  rintro e w1 ⟨rfl, b1⟩
  have B1 := Lib.hid ((below1 w _).trans (b1.mono (by simp)))
  clear b1 C
  go_wp2_with fail
  go_ret
  exact ⟨rfl, B1.out⟩

theorem isPlace_any (v n : Int) (w : World) : Calls Tryd.prog 49 #[.int .i64 v, .int .i64 n] w fun e w' => e = .returned (.bool (placeB v n)) ∧ w = w' := by
  unfold placeB
  by_cases h0 : 1 ≤ v
  · go_enter Tryd.func49, Tryd.ntmps49
    go_wp2_with fail
    go_ret
    exact ⟨ret_bool (by rw [Bool.eq_iff_iff]; simp <;> omega), rfl⟩
  · go_enter Tryd.func49, Tryd.ntmps49
    go_wp2_with fail
    go_ret
    exact ⟨ret_bool (by rw [Bool.eq_iff_iff]; simp <;> omega), rfl⟩
theorem justIf_any (b : Int) (so : Bool) (w : World) : Calls Tryd.prog 80 #[.int .i64 b, .bool so] w fun e w' => e = .returned (.bool (justB b so)) ∧ w = w' := by
  unfold justB
  cases so
  · go_enter Tryd.func80, Tryd.ntmps80
    go_wp2_with fail
    go_ret
    exact ⟨rfl, rfl⟩
  · go_enter Tryd.func80, Tryd.ntmps80
    go_wp2_with fail
    go_ret
    exact ⟨rfl, rfl⟩

/-! sum -/
theorem sumN_abs {f : Nat → Int} {n : Nat} {b : Int} (h : ∀ i, i < n → -b ≤ f i ∧ f i ≤ b) : -(n * b) ≤ sumN f n ∧ sumN f n ≤ n * b := by
  induction n with
  | zero => simp [sumN]
  | succ n ih =>
    have := ih (fun i hi => h i (by omega))
    have := h n (by omega)
    rw [sumN]
    have e : ((n + 1 : Nat) : Int) * b = n * b + b := by rw [Int.natCast_add, Int.add_mul]; simp
    omega
theorem mul_abs {a b : Int} (ha : -1000000 ≤ a ∧ a ≤ 1000000) (hb : -1000000 ≤ b ∧ b ≤ 1000000) : -1000000000000 ≤ a * b ∧ a * b ≤ 1000000000000 := by
  have h1 : (a * b).natAbs ≤ 1000000 * 1000000 := by
    rw [Int.natAbs_mul]
    exact Nat.mul_le_mul (by omega) (by omega)
  omega
theorem getD_in {L : List Int} {lo hi : Int} (h : ∀ v ∈ L, lo ≤ v ∧ v ≤ hi) (h0 : lo ≤ 0 ∧ 0 ≤ hi) (i : Nat) : lo ≤ L.getD i 0 ∧ L.getD i 0 ≤ hi := by
  by_cases hi : i < L.length
  · exact h _ (getD_mem L i hi)
  · rw [List.getD_eq_getElem?_getD, List.getElem?_eq_none (by omega)]
    exact h0

set_option maxHeartbeats 1000000 in
theorem sum_any (x y : Sl) (C X : List Int) (w : World) (hx : IsInts w x C) (hy : IsInts w y X) (hl : C.length = X.length) (h64 : C.length ≤ 64) (hC : ∀ v ∈ C, -1000000 ≤ v ∧ v ≤ 1000000) (hX : ∀ v ∈ X, -1000000 ≤ v ∧ v ≤ 1000000) :
    Calls Tryd.prog 46 #[.slice x.A x.n x.c, .slice y.A y.n y.c] w fun e w' => e = .returned (.int .i64 (dotE C X)) ∧ w = w' := by
  obtain ⟨A, n, c⟩ := x
  obtain ⟨hn, hL, hlen, hcap⟩ := hx
  obtain ⟨A', n', c'⟩ := y
  obtain ⟨hn', hL', hlen', hcap'⟩ := hy
  simp only at hn hL hlen hn' hL' hlen' ⊢
  have h64n : n ≤ 64 := by omega
  have hnn : n' = n := by omega
  subst hnn
  have HL := Lib.hid hL
  have HL' := Lib.hid hL'
  have HC := Lib.hid hC
  have HX := Lib.hid hX
  have HE : Hid (dotE C X = sumN (fun i => C.getD i 0 * X.getD i 0) n') := Lib.hid (by unfold dotE; rw [hn])
  generalize dotE C X = D at HE ⊢
  clear hL hL' hC hX hn hn' hl h64 hcap hcap'
  go_enter Tryd.func46, Tryd.ntmps46
  go_wp2_with fail
  go_loopw [5, 10] (fun s i wr => ∃ (k : Nat) (t : Int), s = .int .i64 t ∧ i = .int .i64 (k : Nat) ∧ k ≤ n' ∧ Hid (t = sumN (fun i => C.getD i 0 * X.getD i 0) k) ∧ Hid (w = wr)) (fun _ i _ => n' - (intOf i).toNat)
  case atStart => exact ⟨0, 0, rfl, rfl, by omega, Lib.hid rfl, Lib.hid rfl⟩
  case round =>
    obtain ⟨k, t, rfl, rfl, hk, HT, HB⟩ := hrel
    by_cases hlt : k < n'
    · obtain ⟨ad, rfl, hbk, hcl⟩ := HL.out (by omega)
      obtain ⟨ad', rfl, hbk', hcl'⟩ := HL'.out (by omega)
      have hck : wr.cell? (ad.add k) = some (.int .i64 (C.getD k 0)) := by rw [← HB.out]; exact hcl k hlt
      have hck' : wr.cell? (ad'.add k) = some (.int .i64 (X.getD k 0)) := by rw [← HB.out]; exact hcl' k hlt
      have hb1 := getD_in HC.out (by omega) k
      have hb2 := getD_in HX.out (by omega) k
      have hm := mul_abs hb1 hb2
      have hs := sumN_abs (f := fun i => C.getD i 0 * X.getD i 0) (n := k) (b := 1000000000000) (fun i hi => mul_abs (getD_in HC.out (by omega) i) (getD_in HX.out (by omega) i))
      rw [← HT.out] at hs
      have HT2 : Hid (t + C.getD k 0 * X.getD k 0 = sumN (fun i => C.getD i 0 * X.getD i 0) (k + 1)) := Lib.hid (by rw [HT.out]; rfl)
      have w1 : IntKind.i64.wrap (C.getD k 0 * X.getD k 0) = C.getD k 0 * X.getD k 0 := IntWalk.i64_in _ (by omega)
      have w2 : IntKind.i64.wrap (t + C.getD k 0 * X.getD k 0) = t + C.getD k 0 * X.getD k 0 := IntWalk.i64_in _ (by omega)
      clear hcl hbk hcl' hbk' hb1 hb2 hm hs HT
      generalize C.getD k 0 = a at hck HT2 w1 w2
      generalize X.getD k 0 = b at hck' HT2 w1 w2
      go_wp2_with fail
      go_roundw
      case rel => exact ⟨k + 1, _, rfl, by go_num, by omega, HT2, HB⟩
      case measure => simp [intOf]; omega
    · have HT2 : Hid (t = D) := Lib.hid (by rw [HE.out, HT.out, show k = n' by omega])
      clear HT HE
      go_wp2_with fail
      go_ret
      exact ⟨by rw [← HT2.out]; rfl, HB.out⟩
end Go.Proofs.YtppiemgdjkehkaaDoor
