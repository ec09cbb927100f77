/- How a constraint and a model lie in memory. Definitions and plain facts; no walk. -/
import Derived.Test.YtppiemgdjkehkaaDoorMkind
import Derived.Test.YtppiemgdjkehkaaDoorLexname
namespace Go.Proofs.YtppiemgdjkehkaaDoor
open Go.RowKit

/-- A slice, as it is handed on. -/
structure Sl where
  A : Option Addr
  n : Nat
  c : Nat
abbrev Sl.v (x : Sl) : Value := .slice x.A x.n x.c
/-- A slice of numbers. -/
structure IsInts (w : World) (x : Sl) (L : List Int) : Prop where
  len : x.n = L.length
  lies : Lies w x.A x.n (i64f L)
  big : x.n ≤ 4611686018427387903
  cap : x.n ≤ x.c
/-- A slice of slices of numbers. -/
structure IsRows (w : World) (x : Sl) (R : List (List Int)) : Prop where
  len : x.n = R.length
  big : x.n ≤ 4611686018427387903
  lies : 0 < x.n → ∃ ad, x.A = some ad ∧ ad.block < w.heap.size ∧ ∀ i, i < x.n → ∃ u : Sl, w.cell? (ad.add i) = some (.slice u.A u.n u.c) ∧ IsInts w u (R.getD i [])
theorem IsInts.below {w w' : World} {v : Sl} {L : List Int} (h : IsInts w v L) (hb : Below w.heap.size w w') : IsInts w' v L := ⟨h.len, h.lies.below hb, h.big, h.cap⟩
theorem IsRows.below {w w' : World} {v : Sl} {R : List (List Int)} (h : IsRows w v R) (hb : Below w.heap.size w w') : IsRows w' v R := by
  refine ⟨h.len, h.big, fun h0 => ?_⟩
  obtain ⟨ad, e, hl, hc⟩ := h.lies h0
  refine ⟨ad, e, Nat.lt_of_lt_of_le hl hb.size, fun i hi => ?_⟩
  obtain ⟨u, h3, h4⟩ := hc i hi
  exact ⟨u, (hb.cell (by rw [add_block]; exact hl)).trans h3, h4.below hb⟩
theorem IsInts.nil (w : World) : IsInts w ⟨none, 0, 0⟩ [] := ⟨rfl, Lies.none _ _ _, by simp, Nat.le_refl _⟩
theorem IsRows.nil (w : World) : IsRows w ⟨none, 0, 0⟩ [] := ⟨rfl, by simp, fun h => absurd h (by simp)⟩

/-- A constraint, as lists. -/
structure ConL where
  kind : Int
  A : List Int
  B : List Int
  C : List Int
  D : List Int
  E : List Int
  K : Int
  rows : List (List Int)

/-- A constraint's parts, as they are handed on. -/
structure ConV where
  a : Sl
  b : Sl
  c : Sl
  d : Sl
  e : Sl
  r : Sl
abbrev ConV.cells (v : ConV) (kind k : Int) : Array Value := #[.int .i64 kind, .slice v.a.A v.a.n v.a.c, .slice v.b.A v.b.n v.b.c, .slice v.c.A v.c.n v.c.c, .slice v.d.A v.d.n v.d.c, .slice v.e.A v.e.n v.e.c, .int .i64 k, .slice v.r.A v.r.n v.r.c]
abbrev ConV.val (v : ConV) (kind k : Int) : Value := .agg #[.int .i64 kind, .slice v.a.A v.a.n v.a.c, .slice v.b.A v.b.n v.b.c, .slice v.c.A v.c.n v.c.c, .slice v.d.A v.d.n v.d.c, .slice v.e.A v.e.n v.e.c, .int .i64 k, .slice v.r.A v.r.n v.r.c]
structure ConIn (w : World) (v : ConV) (l : ConL) : Prop where
  a : IsInts w v.a l.A
  b : IsInts w v.b l.B
  c : IsInts w v.c l.C
  d : IsInts w v.d l.D
  e : IsInts w v.e l.E
  r : IsRows w v.r l.rows
theorem ConIn.below {w w' : World} {v : ConV} {c : ConL} (h : ConIn w v c) (hb : Below w.heap.size w w') : ConIn w' v c :=
  ⟨h.a.below hb, h.b.below hb, h.c.below hb, h.d.below hb, h.e.below hb, h.r.below hb⟩
/-- A constraint's value. -/
def IsCon (w : World) (x : Value) (c : ConL) : Prop := ∃ v : ConV, x = v.val c.kind c.K ∧ ConIn w v c
theorem IsCon.below {w w' : World} {x : Value} {c : ConL} (h : IsCon w x c) (hb : Below w.heap.size w w') : IsCon w' x c := by
  obtain ⟨v, e, h1⟩ := h
  exact ⟨v, e, h1.below hb⟩
end Go.Proofs.YtppiemgdjkehkaaDoor

/- Contracts: slices.IndexFunc and ContainsFunc over numbers, with a function that holds pointers; places, within. -/
namespace Go.Proofs.YtppiemgdjkehkaaDoor
open Go.RowKit

def anyTo (p : Int → Bool) (L : List Int) (k : Nat) : Prop := ∀ j, j < k → p (L.getD j 0) = false
theorem any_yes {p : Int → Bool} {L : List Int} {k : Nat} (hk : k < L.length) (h : p (L.getD k 0) = true) : L.any p = true := List.any_eq_true.2 ⟨_, getD_mem L k hk, h⟩
theorem any_no {p : Int → Bool} {L : List Int} (h : anyTo p L L.length) : L.any p = false := by
  rw [List.any_eq_false]
  intro x hx
  obtain ⟨j, hj, rfl⟩ := List.getElem_of_mem hx
  have := h j hj
  rw [List.getD_eq_getElem?_getD, List.getElem?_eq_getElem hj] at this
  simpa using this

set_option maxHeartbeats 1000000 in
theorem indexFunc_ints (g : Nat) (caps : Array Value) (eg : ∀ args w, (callFunc g args).run Tryd.prog w = .ok (.enter g args) w) (p : Int → Bool) (x : Sl) (L : List Int) (w : World) (h : IsInts w x L)
    (hp : ∀ (z : Int) (W : World), Below w.heap.size w W → Calls Tryd.prog g (#[.int .i64 z] ++ caps) W fun e w' => e = .returned (.bool (p z)) ∧ Below W.heap.size W w') :
    Calls Tryd.prog 90 #[.slice x.A x.n x.c, .func (.func g) #[] caps] w fun e w' => (∃ k : Int, e = .returned (.int .i64 k) ∧ decide (0 ≤ k) = L.any p) ∧ Below w.heap.size w w' := by
  obtain ⟨A, n, c⟩ := x
  obtain ⟨hn, hL, hlen, hcap⟩ := h
  simp only at hn hL hlen ⊢
  have HL := Lib.hid hL
  have HP := Lib.hid hp
  have Hn := Lib.hid hn.symm
  clear hp hL hn
  go_enter Tryd.func90, Tryd.ntmps90
  go_wp2_with fail
  go_loopw [8] (fun i wr => ∃ k : Nat, i = .int .i64 (k : Nat) ∧ k ≤ n ∧ Hid (anyTo p L k) ∧ Hid (Below w.heap.size w wr)) (fun i _ => n - (intOf i).toNat)
  case atStart => exact ⟨0, rfl, by omega, Lib.hid (fun j hj => absurd hj (by omega)), Lib.hid (Below.refl _ _)⟩
  case round =>
    obtain ⟨k, rfl, hk, H0, HB⟩ := hrel
    by_cases hlt : k < n
    · obtain ⟨ad, rfl, hbk, hcl⟩ := HL.out (by omega)
      have hck : wr.cell? (ad.add k) = some (.int .i64 (L.getD k 0)) := (HB.out.cell (by rw [add_block]; exact hbk)).trans (hcl k hlt)
      have HY := Lib.hid (any_yes (p := p) (L := L) (k := k) (by rw [Hn.out]; exact hlt))
      have HN : Hid (p (L.getD k 0) = false → anyTo p L (k + 1)) := Lib.hid (fun e j hj => by
        by_cases h : j < k
        · exact H0.out j h
        · obtain rfl : j = k := by omega
          exact e)
      have cS := Lib.hid (HP.out (L.getD k 0) wr HB.out)
      clear hcl hbk
      generalize L.getD k 0 = z at hck HY HN cS
      cases hz : p z
      · have HN2 := Lib.hid (HN.out hz)
        rw [hz] at cS
        clear HN HY hz
        go_wp2_with fail
        refine cS.out.mono ?_
        rintro e w1 ⟨rfl, b1⟩
        have B1 := Lib.hid (HB.out.trans (b1.mono HB.out.size))
        clear b1
        go_wp2_with fail
        go_roundw
        case rel => exact ⟨k + 1, by go_num, by omega, HN2, B1⟩
        case measure => simp [intOf]; omega
      · have HY2 := Lib.hid (HY.out hz)
        rw [hz] at cS
        clear HN HY hz
        go_wp2_with fail
        refine cS.out.mono ?_
        rintro e w1 ⟨rfl, b1⟩
        have B1 := Lib.hid (HB.out.trans (b1.mono HB.out.size))
        clear b1
        go_wp2_with fail
        go_ret
        exact ⟨⟨_, rfl, by rw [HY2.out]; simp⟩, B1.out⟩
    · have HN : Hid (L.any p = false) := Lib.hid (any_no (by rw [Hn.out]; have := H0.out; rwa [show k = n by omega] at this))
      clear H0
      go_wp2_with fail
      go_ret
      exact ⟨⟨_, rfl, by rw [HN.out]; simp⟩, HB.out⟩

theorem containsFunc_ints (g : Nat) (caps : Array Value) (eg : ∀ args w, (callFunc g args).run Tryd.prog w = .ok (.enter g args) w) (p : Int → Bool) (x : Sl) (L : List Int) (w : World) (h : IsInts w x L)
    (hp : ∀ (z : Int) (W : World), Below w.heap.size w W → Calls Tryd.prog g (#[.int .i64 z] ++ caps) W fun e w' => e = .returned (.bool (p z)) ∧ Below W.heap.size W w') :
    Calls Tryd.prog 76 #[.slice x.A x.n x.c, .func (.func g) #[] caps] w fun e w' => e = .returned (.bool (L.any p)) ∧ Below w.heap.size w w' := by
  have C := Lib.hid (indexFunc_ints g caps eg p x L w h hp)
  clear hp h
  go_enter Tryd.func76, Tryd.ntmps76
  go_wp2_with fail
  refine C.out.mono ?_
  rintro e w1 ⟨⟨k, rfl, hk⟩, b1⟩
  have B1 := Lib.hid b1
  have HK := Lib.hid hk
  clear b1 hk
  go_wp2_with fail
  go_ret
  exact ⟨ret_bool HK.out, B1.out⟩

theorem ePlaces1 : ∀ args w, (callFunc 77 args).run Tryd.prog w = .ok (.enter 77 args) w := enters_of Tryd.func77 (by kernel_rfl) rfl
theorem eWithin1 : ∀ args w, (callFunc 91 args).run Tryd.prog w = .ok (.enter 91 args) w := enters_of Tryd.func91 (by kernel_rfl) rfl

def outB (low high z : Int) : Bool := decide (z < low) || decide (high < z)
def outV (vars z : Int) : Bool := decide (z < 0) || decide (vars ≤ z)

theorem places1_any (z vars : Int) (a : Addr) (w : World) (hc : w.cell? a = some (.int .i64 vars)) : Calls Tryd.prog 77 (#[.int .i64 z] ++ #[.pointer (some a)]) w fun e w' => e = .returned (.bool (outV vars z)) ∧ Below w.heap.size w w' := by
  show Calls Tryd.prog 77 #[.int .i64 z, .pointer (some a)] w _
  unfold outV
  by_cases h0 : z < 0
  · go_enter Tryd.func77, Tryd.ntmps77
    go_wp2_with fail
    go_ret
    exact ⟨ret_bool (by rw [Bool.eq_iff_iff]; simp <;> omega), Below.refl _ _⟩
  · go_enter Tryd.func77, Tryd.ntmps77
    go_wp2_with fail
    go_ret
    exact ⟨ret_bool (by rw [Bool.eq_iff_iff]; simp <;> omega), Below.refl _ _⟩

theorem within1_any (z low high : Int) (a b : Addr) (w : World) (hc : w.cell? a = some (.int .i64 low)) (hd : w.cell? b = some (.int .i64 high)) : Calls Tryd.prog 91 (#[.int .i64 z] ++ #[.pointer (some a), .pointer (some b)]) w fun e w' => e = .returned (.bool (outB low high z)) ∧ Below w.heap.size w w' := by
  show Calls Tryd.prog 91 #[.int .i64 z, .pointer (some a), .pointer (some b)] w _
  unfold outB
  by_cases h0 : z < low
  · go_enter Tryd.func91, Tryd.ntmps91
    go_wp2_with fail
    go_ret
    exact ⟨ret_bool (by rw [Bool.eq_iff_iff]; simp <;> omega), Below.refl _ _⟩
  · go_enter Tryd.func91, Tryd.ntmps91
    go_wp2_with fail
    go_ret
    exact ⟨ret_bool (by rw [Bool.eq_iff_iff]; simp <;> omega), Below.refl _ _⟩

theorem places_any (x : Sl) (L : List Int) (vars : Int) (w : World) (h : IsInts w x L) : Calls Tryd.prog 43 #[.slice x.A x.n x.c, .int .i64 vars] w fun e w' => e = .returned (.bool (!L.any (outV vars))) ∧ Below w.heap.size w w' := by
  have C : Hid (∀ T, Calls Tryd.prog 76 #[.slice x.A x.n x.c, .func (.func 77) #[] #[.pointer (some ⟨w.heap.size, 0, none⟩)]] (w.alloc (.cells #[.int .i64 vars] T)) fun e w' => e = .returned (.bool (L.any (outV vars))) ∧ Below (w.alloc (.cells #[.int .i64 vars] T)).heap.size (w.alloc (.cells #[.int .i64 vars] T)) w') := Lib.hid (fun T =>
    containsFunc_ints _ _ ePlaces1 (outV vars) x L _ (h.below (below1 w _)) (fun z W hW => by
      refine places1_any _ _ _ _ ?_
      rw [hW.cell (by simp)]
      simp))
  generalize L.any (outV vars) = B at C ⊢
  go_enter Tryd.func43, Tryd.ntmps43
  go_wp2_with fail
  refine (C.out _).mono ?_
  rintro e w1 ⟨rfl, b1⟩
  have B1 := Lib.hid ((below1 w _).trans (b1.mono (by simp)))
  clear b1 C
  go_wp2_with fail
  go_ret
  exact ⟨rfl, B1.out⟩

theorem within_any (x : Sl) (L : List Int) (low high : Int) (w : World) (h : IsInts w x L) : Calls Tryd.prog 78 #[.slice x.A x.n x.c, .int .i64 low, .int .i64 high] w fun e w' => e = .returned (.bool (!L.any (outB low high))) ∧ Below w.heap.size w w' := by
  have C : Hid (∀ T U, Calls Tryd.prog 76 #[.slice x.A x.n x.c, .func (.func 91) #[] #[.pointer (some ⟨w.heap.size, 0, none⟩), .pointer (some ⟨w.heap.size + 1, 0, none⟩)]] ((w.alloc (.cells #[.int .i64 low] T)).alloc (.cells #[.int .i64 high] U)) fun e w' => e = .returned (.bool (L.any (outB low high))) ∧ Below ((w.alloc (.cells #[.int .i64 low] T)).alloc (.cells #[.int .i64 high] U)).heap.size ((w.alloc (.cells #[.int .i64 low] T)).alloc (.cells #[.int .i64 high] U)) w') := Lib.hid (fun T U =>
    containsFunc_ints _ _ eWithin1 (outB low high) x L _ (h.below ((below1 w _).trans ((below1 _ _).mono (by simp)))) (fun z W hW => by
      refine within1_any _ _ _ _ _ _ ?_ ?_
      · rw [hW.cell (by simp; omega)]
        simp
      · rw [hW.cell (by simp)]
        simp))
  generalize L.any (outB low high) = B at C ⊢
  go_enter Tryd.func78, Tryd.ntmps78
  go_wp2_with fail
  refine (C.out _ _).mono ?_
  rintro e w1 ⟨rfl, b1⟩
  have B1 := Lib.hid (((below1 w _).trans ((below1 _ _).mono (by simp))).trans (b1.mono (by simp; omega)))
  clear b1 C
  go_wp2_with fail
  go_ret
  exact ⟨rfl, B1.out⟩
end Go.Proofs.YtppiemgdjkehkaaDoor
