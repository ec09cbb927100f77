/- Contracts: slices.IndexFunc and ContainsFunc over rows; rightRows. -/
import Derived.Test.YtppiemgdjkehkaaDoorMany
namespace Go.Proofs.YtppiemgdjkehkaaDoor
open Go.RowKit

def anyRow (p : List Int → Bool) (R : List (List Int)) (k : Nat) : Prop := ∀ j, j < k → p (R.getD j []) = false
theorem row_mem (R : List (List Int)) (k : Nat) (hk : k < R.length) : R.getD k [] ∈ R := by
  rw [List.getD_eq_getElem?_getD, List.getElem?_eq_getElem hk]
  exact List.getElem_mem hk
theorem anyRow_yes {p : List Int → Bool} {R : List (List Int)} {k : Nat} (hk : k < R.length) (h : p (R.getD k []) = true) : R.any p = true := List.any_eq_true.2 ⟨_, row_mem R k hk, h⟩
theorem anyRow_no {p : List Int → Bool} {R : List (List Int)} (h : anyRow p R R.length) : R.any p = false := by
  rw [List.any_eq_false]
  intro x hx
  obtain ⟨j, hj, rfl⟩ := List.getElem_of_mem hx
  have := h j hj
  rw [List.getD_eq_getElem?_getD, List.getElem?_eq_getElem hj] at this
  simpa using this

set_option maxHeartbeats 1000000 in
theorem indexFunc_rows (g : Nat) (caps : Array Value) (eg : ∀ args w, (callFunc g args).run Tryd.prog w = .ok (.enter g args) w) (p : List Int → Bool) (x : Sl) (R : List (List Int)) (w : World) (h : IsRows w x R)
    (hp : ∀ (u : Sl) (r : List Int) (W : World), Below w.heap.size w W → IsInts W u r → Calls Tryd.prog g (#[.slice u.A u.n u.c] ++ caps) W fun e w' => e = .returned (.bool (p r)) ∧ Below W.heap.size W w') :
    Calls Tryd.prog 82 #[.slice x.A x.n x.c, .func (.func g) #[] caps] w fun e w' => (∃ k : Int, e = .returned (.int .i64 k) ∧ decide (0 ≤ k) = R.any p) ∧ Below w.heap.size w w' := by
  obtain ⟨A, n, c⟩ := x
  obtain ⟨hn, hlen, hL⟩ := h
  simp only at hn hL hlen ⊢
  have HL := Lib.hid hL
  have HP := Lib.hid hp
  have Hn := Lib.hid hn.symm
  clear hp hL hn
  go_enter Tryd.func82, Tryd.ntmps82
  go_wp2_with fail
  go_loopw [8] (fun i wr => ∃ k : Nat, i = .int .i64 (k : Nat) ∧ k ≤ n ∧ Hid (anyRow p R k) ∧ Hid (Below w.heap.size w wr)) (fun i _ => n - (intOf i).toNat)
  case atStart => exact ⟨0, rfl, by omega, Lib.hid (fun j hj => absurd hj (by omega)), Lib.hid (Below.refl _ _)⟩
  case round =>
    obtain ⟨k, rfl, hk, H0, HB⟩ := hrel
    by_cases hlt : k < n
    · obtain ⟨ad, rfl, hbk, hcl⟩ := HL.out (by omega)
      obtain ⟨u, hu, hr⟩ := hcl k hlt
      have hck : wr.cell? (ad.add k) = some (.slice u.A u.n u.c) := (HB.out.cell (by rw [add_block]; exact hbk)).trans hu
      have HY := Lib.hid (anyRow_yes (p := p) (R := R) (k := k) (by rw [Hn.out]; exact hlt))
      have HN : Hid (p (R.getD k []) = false → anyRow p R (k + 1)) := Lib.hid (fun e j hj => by
        by_cases h : j < k
        · exact H0.out j h
        · obtain rfl : j = k := by omega
          exact e)
      have cS := Lib.hid (HP.out u (R.getD k []) wr HB.out (hr.below HB.out))
      clear hcl hbk hu hr
      generalize R.getD k [] = z at HY HN cS
      cases hz : p z
      · have HN2 := Lib.hid (HN.out hz)
        rw [hz] at cS
        clear HN HY hz
        go_wp2_with fail
        refine cS.out.mono ?_
        rintro e w1 ⟨rfl, b1⟩
        have B1 := Lib.hid (HB.out.trans (b1.mono HB.out.size))
        clear b1
        go_wp2_with fail
        go_roundw
        case rel => exact ⟨k + 1, by go_num, by omega, HN2, B1⟩
        case measure => simp [intOf]; omega
      · have HY2 := Lib.hid (HY.out hz)
        rw [hz] at cS
        clear HN HY hz
        go_wp2_with fail
        refine cS.out.mono ?_
        rintro e w1 ⟨rfl, b1⟩
        have B1 := Lib.hid (HB.out.trans (b1.mono HB.out.size))
        clear b1
        go_wp2_with fail
        go_ret
        exact ⟨⟨_, rfl, by rw [HY2.out]; simp⟩, B1.out⟩
    · have HN : Hid (R.any p = false) := Lib.hid (anyRow_no (by rw [Hn.out]; have := H0.out; rwa [show k = n by omega] at this))
      clear H0
      go_wp2_with fail
      go_ret
      exact ⟨⟨_, rfl, by rw [HN.out]; simp⟩, HB.out⟩

theorem containsFunc_rows (g : Nat) (caps : Array Value) (eg : ∀ args w, (callFunc g args).run Tryd.prog w = .ok (.enter g args) w) (p : List Int → Bool) (x : Sl) (R : List (List Int)) (w : World) (h : IsRows w x R)
    (hp : ∀ (u : Sl) (r : List Int) (W : World), Below w.heap.size w W → IsInts W u r → Calls Tryd.prog g (#[.slice u.A u.n u.c] ++ caps) W fun e w' => e = .returned (.bool (p r)) ∧ Below W.heap.size W w') :
    Calls Tryd.prog 52 #[.slice x.A x.n x.c, .func (.func g) #[] caps] w fun e w' => e = .returned (.bool (R.any p)) ∧ Below w.heap.size w w' := by
  have C := Lib.hid (indexFunc_rows g caps eg p x R w h hp)
  clear hp h
  go_enter Tryd.func52, Tryd.ntmps52
  go_wp2_with fail
  refine C.out.mono ?_
  rintro e w1 ⟨⟨k, rfl, hk⟩, b1⟩
  have B1 := Lib.hid b1
  have HK := Lib.hid hk
  clear b1 hk
  go_wp2_with fail
  go_ret
  exact ⟨ret_bool HK.out, B1.out⟩

theorem eRows1 : ∀ args w, (callFunc 88 args).run Tryd.prog w = .ok (.enter 88 args) w := enters_of Tryd.func88 (by kernel_rfl) rfl

theorem rows1_any (u : Sl) (b : Nat) (x : Sl) (w : World) (hc : w.cell? ⟨b, 1, none⟩ = some (.slice x.A x.n x.c)) : Calls Tryd.prog 88 (#[.slice u.A u.n u.c] ++ #[.pointer (some ⟨b, 0, none⟩)]) w fun e w' => e = .returned (.bool (u.n != x.n)) ∧ Below w.heap.size w w' := by
  show Calls Tryd.prog 88 #[.slice u.A u.n u.c, .pointer (some ⟨b, 0, none⟩)] w _
  go_enter Tryd.func88, Tryd.ntmps88
  go_wp2_with fail
  go_ret
  refine ⟨ret_bool ?_, Below.refl _ _⟩
  rw [Bool.eq_iff_iff]
  simp <;> omega

/-- Are there as many rows as must be, each as long as A? -/
def rowsB (c : ConL) (shape : ByteArray) : Bool := if hasC shape 114 then decide (1 ≤ c.rows.length) && decide (c.rows.length ≤ 1024) && !c.rows.any (fun r => r.length != c.A.length) else c.rows.length == 0

theorem rightRows_any (v : ConV) (c : ConL) (shape : ByteArray) (w : World) (h : ConIn w v c) : Calls Tryd.prog 74 #[v.val c.kind c.K, .string shape] w fun e w' => e = .returned (.bool (rowsB c shape)) ∧ Below w.heap.size w w' := by
  have C0 := Lib.hid (fun W => contains_one shape 114 W)
  have hl : v.r.n = c.rows.length := h.r.len
  have C1 : Hid (Calls Tryd.prog 52 #[.slice v.r.A v.r.n v.r.c, .func (.func 88) #[] #[.pointer (some ⟨w.heap.size, 0, none⟩)]] (w.alloc (.cells (v.cells c.kind c.K) 30)) fun e w' => e = .returned (.bool (c.rows.any (fun r => r.length != c.A.length))) ∧ Below (w.alloc (.cells (v.cells c.kind c.K) 30)).heap.size (w.alloc (.cells (v.cells c.kind c.K) 30)) w') :=
    Lib.hid (containsFunc_rows _ _ eRows1 (fun r => r.length != c.A.length) v.r c.rows _ (h.r.below (below1 w _)) (fun u r W hW hu => by
      rw [← hu.len, ← h.a.len]
      refine rows1_any u w.heap.size v.a W ?_
      rw [hW.cell (by simp)]
      simp))
  unfold rowsB
  generalize c.rows.any (fun r => r.length != c.A.length) = B at C1 ⊢
  rw [← hl]
  generalize c.kind = kd at *
  generalize c.K = kk at *
  have hlen := h.r.big
  clear h hl
  cases hh : hasC shape 114 <;> rw [hh] at C0
  · go_enter Tryd.func74, Tryd.ntmps74
    go_wp2_with fail
    refine (C0.out _).mono ?_
    rintro e w1 ⟨rfl, rfl⟩
    go_wp2_with fail
    go_ret
    refine ⟨ret_bool ?_, below1 _ _⟩
    rw [Bool.eq_iff_iff]
    simp <;> omega
  · by_cases h1 : 1 ≤ v.r.n
    · by_cases h2 : v.r.n ≤ 1024
      · go_enter Tryd.func74, Tryd.ntmps74
        go_wp2_with fail
        refine (C0.out _).mono ?_
        rintro e w1 ⟨rfl, rfl⟩
        go_wp2_with fail
        refine C1.out.mono ?_
        rintro e w1 ⟨rfl, b1⟩
        have B1 := Lib.hid ((below1 w _).trans (b1.mono (by simp)))
        clear b1
        go_wp2_with fail
        go_ret
        exact ⟨ret_bool (by simp <;> omega), B1.out⟩
      · go_enter Tryd.func74, Tryd.ntmps74
        go_wp2_with fail
        refine (C0.out _).mono ?_
        rintro e w1 ⟨rfl, rfl⟩
        go_wp2_with fail
        go_ret
        exact ⟨ret_bool (by simp <;> omega), below1 _ _⟩
    · go_enter Tryd.func74, Tryd.ntmps74
      go_wp2_with fail
      refine (C0.out _).mono ?_
      rintro e w1 ⟨rfl, rfl⟩
      go_wp2_with fail
      go_ret
      exact ⟨ret_bool (by simp <;> omega), below1 _ _⟩
end Go.Proofs.YtppiemgdjkehkaaDoor
