/- How a constraint and a model lie in memory. Definitions and plain facts; no walk. -/
import Derived.Test.YtkhmocbfkpbpfaaGreatDoorMkind
import Derived.Test.YtkhmocbfkpbpfaaGreatDoorLexname
import Derived.Lib.MinMax
namespace Go.Proofs.YtkhmocbfkpbpfaaGreatDoor
open Go.RowKit

/-- A slice, as it is handed on. -/
structure Sl where
  A : Option Addr
  n : Nat
  c : Nat
abbrev Sl.v (x : Sl) : Value := .slice x.A x.n x.c
/-- A slice of numbers. -/
structure IsInts (w : World) (x : Sl) (L : List Int) : Prop where
  len : x.n = L.length
  lies : Lies w x.A x.n (i64f L)
  big : x.n ≤ 4611686018427387903
  cap : x.n ≤ x.c
/-- A slice of slices of numbers. -/
structure IsRows (w : World) (x : Sl) (R : List (List Int)) : Prop where
  len : x.n = R.length
  big : x.n ≤ 4611686018427387903
  lies : 0 < x.n → ∃ ad, x.A = some ad ∧ ad.block < w.heap.size ∧ ∀ i, i < x.n → ∃ u : Sl, w.cell? (ad.add i) = some (.slice u.A u.n u.c) ∧ IsInts w u (R.getD i [])
theorem IsInts.below {w w' : World} {v : Sl} {L : List Int} (h : IsInts w v L) (hb : Below w.heap.size w w') : IsInts w' v L := ⟨h.len, h.lies.below hb, h.big, h.cap⟩
theorem IsRows.below {w w' : World} {v : Sl} {R : List (List Int)} (h : IsRows w v R) (hb : Below w.heap.size w w') : IsRows w' v R := by
  refine ⟨h.len, h.big, fun h0 => ?_⟩
  obtain ⟨ad, e, hl, hc⟩ := h.lies h0
  refine ⟨ad, e, Nat.lt_of_lt_of_le hl hb.size, fun i hi => ?_⟩
  obtain ⟨u, h3, h4⟩ := hc i hi
  exact ⟨u, (hb.cell (by rw [add_block]; exact hl)).trans h3, h4.below hb⟩
theorem IsInts.nil (w : World) : IsInts w ⟨none, 0, 0⟩ [] := ⟨rfl, Lies.none _ _ _, by simp, Nat.le_refl _⟩
theorem IsRows.nil (w : World) : IsRows w ⟨none, 0, 0⟩ [] := ⟨rfl, by simp, fun h => absurd h (by simp)⟩

/-- A constraint, as lists. -/
structure ConL where
  kind : Int
  A : List Int
  B : List Int
  C : List Int
  D : List Int
  E : List Int
  K : Int
  rows : List (List Int)

/-- A constraint's parts, as they are handed on. -/
structure ConV where
  a : Sl
  b : Sl
  c : Sl
  d : Sl
  e : Sl
  r : Sl
abbrev ConV.cells (v : ConV) (kind k : Int) : Array Value := #[.int .i64 kind, .slice v.a.A v.a.n v.a.c, .slice v.b.A v.b.n v.b.c, .slice v.c.A v.c.n v.c.c, .slice v.d.A v.d.n v.d.c, .slice v.e.A v.e.n v.e.c, .int .i64 k, .slice v.r.A v.r.n v.r.c]
abbrev ConV.val (v : ConV) (kind k : Int) : Value := .agg #[.int .i64 kind, .slice v.a.A v.a.n v.a.c, .slice v.b.A v.b.n v.b.c, .slice v.c.A v.c.n v.c.c, .slice v.d.A v.d.n v.d.c, .slice v.e.A v.e.n v.e.c, .int .i64 k, .slice v.r.A v.r.n v.r.c]
structure ConIn (w : World) (v : ConV) (l : ConL) : Prop where
  a : IsInts w v.a l.A
  b : IsInts w v.b l.B
  c : IsInts w v.c l.C
  d : IsInts w v.d l.D
  e : IsInts w v.e l.E
  r : IsRows w v.r l.rows
theorem ConIn.below {w w' : World} {v : ConV} {c : ConL} (h : ConIn w v c) (hb : Below w.heap.size w w') : ConIn w' v c :=
  ⟨h.a.below hb, h.b.below hb, h.c.below hb, h.d.below hb, h.e.below hb, h.r.below hb⟩
/-- A constraint's value. -/
def IsCon (w : World) (x : Value) (c : ConL) : Prop := ∃ v : ConV, x = v.val c.kind c.K ∧ ConIn w v c
theorem IsCon.below {w w' : World} {x : Value} {c : ConL} (h : IsCon w x c) (hb : Below w.heap.size w w') : IsCon w' x c := by
  obtain ⟨v, e, h1⟩ := h
  exact ⟨v, e, h1.below hb⟩
end Go.Proofs.YtkhmocbfkpbpfaaGreatDoor

/- Contracts: slices.IndexFunc and ContainsFunc over numbers, with a function that holds pointers; places, within. -/
namespace Go.Proofs.YtkhmocbfkpbpfaaGreatDoor
open Go.RowKit

def anyTo (p : Int → Bool) (L : List Int) (k : Nat) : Prop := ∀ j, j < k → p (L.getD j 0) = false
theorem any_yes {p : Int → Bool} {L : List Int} {k : Nat} (hk : k < L.length) (h : p (L.getD k 0) = true) : L.any p = true := List.any_eq_true.2 ⟨_, getD_mem L k hk, h⟩
theorem any_no {p : Int → Bool} {L : List Int} (h : anyTo p L L.length) : L.any p = false := by
  rw [List.any_eq_false]
  intro x hx
  obtain ⟨j, hj, rfl⟩ := List.getElem_of_mem hx
  have := h j hj
  rw [List.getD_eq_getElem?_getD, List.getElem?_eq_getElem hj] at this
  simpa using this

set_option maxHeartbeats 1000000 in
theorem indexFunc_ints (g : Nat) (caps : Array Value) (eg : ∀ args w, (callFunc g args).run Tryz.prog w = .ok (.enter g args) w) (p : Int → Bool) (x : Sl) (L : List Int) (w : World) (h : IsInts w x L)
    (hp : ∀ (z : Int) (W : World), Below w.heap.size w W → Calls Tryz.prog g (#[.int .i64 z] ++ caps) W fun e w' => e = .returned (.bool (p z)) ∧ Below W.heap.size W w') :
    Calls Tryz.prog 250 #[.slice x.A x.n x.c, .func (.func g) #[] caps] w fun e w' => (∃ k : Int, e = .returned (.int .i64 k) ∧ decide (0 ≤ k) = L.any p) ∧ Below w.heap.size w w' := by
  obtain ⟨A, n, c⟩ := x
  obtain ⟨hn, hL, hlen, hcap⟩ := h
  simp only at hn hL hlen ⊢
  have HL := Lib.hid hL
  have HP := Lib.hid hp
  have Hn := Lib.hid hn.symm
  clear hp hL hn
  go_enter Tryz.func250, Tryz.ntmps250
  go_wp2_with fail
  go_loopw [8] (fun i wr => ∃ k : Nat, i = .int .i64 (k : Nat) ∧ k ≤ n ∧ Hid (anyTo p L k) ∧ Hid (Below w.heap.size w wr)) (fun i _ => n - (intOf i).toNat)
  case atStart => exact ⟨0, rfl, by omega, Lib.hid (fun j hj => absurd hj (by omega)), Lib.hid (Below.refl _ _)⟩
  case round =>
    obtain ⟨k, rfl, hk, H0, HB⟩ := hrel
    by_cases hlt : k < n
    · obtain ⟨ad, rfl, hbk, hcl⟩ := HL.out (by omega)
      have hck : wr.cell? (ad.add k) = some (.int .i64 (L.getD k 0)) := (HB.out.cell (by rw [add_block]; exact hbk)).trans (hcl k hlt)
      have HY := Lib.hid (any_yes (p := p) (L := L) (k := k) (by rw [Hn.out]; exact hlt))
      have HN : Hid (p (L.getD k 0) = false → anyTo p L (k + 1)) := Lib.hid (fun e j hj => by
        by_cases h : j < k
        · exact H0.out j h
        · obtain rfl : j = k := by omega
          exact e)
      have cS := Lib.hid (HP.out (L.getD k 0) wr HB.out)
      clear hcl hbk
      generalize L.getD k 0 = z at hck HY HN cS
      cases hz : p z
      · have HN2 := Lib.hid (HN.out hz)
        rw [hz] at cS
        clear HN HY hz
        go_wp2_with fail
        refine cS.out.mono ?_
        rintro e w1 ⟨rfl, b1⟩
        have B1 := Lib.hid (HB.out.trans (b1.mono HB.out.size))
        clear b1
        go_wp2_with fail
        go_roundw
        case rel => exact ⟨k + 1, by go_num, by omega, HN2, B1⟩
        case measure => simp [intOf]; omega
      · have HY2 := Lib.hid (HY.out hz)
        rw [hz] at cS
        clear HN HY hz
        go_wp2_with fail
        refine cS.out.mono ?_
        rintro e w1 ⟨rfl, b1⟩
        have B1 := Lib.hid (HB.out.trans (b1.mono HB.out.size))
        clear b1
        go_wp2_with fail
        go_ret
        exact ⟨⟨_, rfl, by rw [HY2.out]; simp⟩, B1.out⟩
    · have HN : Hid (L.any p = false) := Lib.hid (any_no (by rw [Hn.out]; have := H0.out; rwa [show k = n by omega] at this))
      clear H0
      go_wp2_with fail
      go_ret
      exact ⟨⟨_, rfl, by rw [HN.out]; simp⟩, HB.out⟩

theorem containsFunc_ints (g : Nat) (caps : Array Value) (eg : ∀ args w, (callFunc g args).run Tryz.prog w = .ok (.enter g args) w) (p : Int → Bool) (x : Sl) (L : List Int) (w : World) (h : IsInts w x L)
    (hp : ∀ (z : Int) (W : World), Below w.heap.size w W → Calls Tryz.prog g (#[.int .i64 z] ++ caps) W fun e w' => e = .returned (.bool (p z)) ∧ Below W.heap.size W w') :
    Calls Tryz.prog 227 #[.slice x.A x.n x.c, .func (.func g) #[] caps] w fun e w' => e = .returned (.bool (L.any p)) ∧ Below w.heap.size w w' := by
  have C := Lib.hid (indexFunc_ints g caps eg p x L w h hp)
  clear hp h
  go_enter Tryz.func227, Tryz.ntmps227
  go_wp2_with fail
  refine C.out.mono ?_
  rintro e w1 ⟨⟨k, rfl, hk⟩, b1⟩
  have B1 := Lib.hid b1
  have HK := Lib.hid hk
  clear b1 hk
  go_wp2_with fail
  go_ret
  exact ⟨ret_bool HK.out, B1.out⟩

theorem ePlaces1 : ∀ args w, (callFunc 228 args).run Tryz.prog w = .ok (.enter 228 args) w := enters_of Tryz.func228 (by kernel_rfl) rfl
theorem eWithin1 : ∀ args w, (callFunc 251 args).run Tryz.prog w = .ok (.enter 251 args) w := enters_of Tryz.func251 (by kernel_rfl) rfl

def outB (low high z : Int) : Bool := decide (z < low) || decide (high < z)
def outV (vars z : Int) : Bool := decide (z < 0) || decide (vars ≤ z)

theorem places1_any (z vars : Int) (a : Addr) (w : World) (hc : w.cell? a = some (.int .i64 vars)) : Calls Tryz.prog 228 (#[.int .i64 z] ++ #[.pointer (some a)]) w fun e w' => e = .returned (.bool (outV vars z)) ∧ Below w.heap.size w w' := by
  show Calls Tryz.prog 228 #[.int .i64 z, .pointer (some a)] w _
  unfold outV
  by_cases h0 : z < 0
  · go_enter Tryz.func228, Tryz.ntmps228
    go_wp2_with fail
    go_ret
    exact ⟨ret_bool (by rw [Bool.eq_iff_iff]; simp <;> omega), Below.refl _ _⟩
  · go_enter Tryz.func228, Tryz.ntmps228
    go_wp2_with fail
    go_ret
    exact ⟨ret_bool (by rw [Bool.eq_iff_iff]; simp <;> omega), Below.refl _ _⟩

theorem within1_any (z low high : Int) (a b : Addr) (w : World) (hc : w.cell? a = some (.int .i64 low)) (hd : w.cell? b = some (.int .i64 high)) : Calls Tryz.prog 251 (#[.int .i64 z] ++ #[.pointer (some a), .pointer (some b)]) w fun e w' => e = .returned (.bool (outB low high z)) ∧ Below w.heap.size w w' := by
  show Calls Tryz.prog 251 #[.int .i64 z, .pointer (some a), .pointer (some b)] w _
  unfold outB
  by_cases h0 : z < low
  · go_enter Tryz.func251, Tryz.ntmps251
    go_wp2_with fail
    go_ret
    exact ⟨ret_bool (by rw [Bool.eq_iff_iff]; simp <;> omega), Below.refl _ _⟩
  · go_enter Tryz.func251, Tryz.ntmps251
    go_wp2_with fail
    go_ret
    exact ⟨ret_bool (by rw [Bool.eq_iff_iff]; simp <;> omega), Below.refl _ _⟩

theorem places_any (x : Sl) (L : List Int) (vars : Int) (w : World) (h : IsInts w x L) : Calls Tryz.prog 169 #[.slice x.A x.n x.c, .int .i64 vars] w fun e w' => e = .returned (.bool (!L.any (outV vars))) ∧ Below w.heap.size w w' := by
  have C : Hid (∀ T, Calls Tryz.prog 227 #[.slice x.A x.n x.c, .func (.func 228) #[] #[.pointer (some ⟨w.heap.size, 0, none⟩)]] (w.alloc (.cells #[.int .i64 vars] T)) fun e w' => e = .returned (.bool (L.any (outV vars))) ∧ Below (w.alloc (.cells #[.int .i64 vars] T)).heap.size (w.alloc (.cells #[.int .i64 vars] T)) w') := Lib.hid (fun T =>
    containsFunc_ints _ _ ePlaces1 (outV vars) x L _ (h.below (below1 w _)) (fun z W hW => by
      refine places1_any _ _ _ _ ?_
      rw [hW.cell (by simp)]
      simp))
  generalize L.any (outV vars) = B at C ⊢
  go_enter Tryz.func169, Tryz.ntmps169
  go_wp2_with fail
  refine (C.out _).mono ?_
  rintro e w1 ⟨rfl, b1⟩
  have B1 := Lib.hid ((below1 w _).trans (b1.mono (by simp)))
  clear b1 C
  go_wp2_with fail
  go_ret
  exact ⟨rfl, B1.out⟩

theorem within_any (x : Sl) (L : List Int) (low high : Int) (w : World) (h : IsInts w x L) : Calls Tryz.prog 229 #[.slice x.A x.n x.c, .int .i64 low, .int .i64 high] w fun e w' => e = .returned (.bool (!L.any (outB low high))) ∧ Below w.heap.size w w' := by
  have C : Hid (∀ T U, Calls Tryz.prog 227 #[.slice x.A x.n x.c, .func (.func 251) #[] #[.pointer (some ⟨w.heap.size, 0, none⟩), .pointer (some ⟨w.heap.size + 1, 0, none⟩)]] ((w.alloc (.cells #[.int .i64 low] T)).alloc (.cells #[.int .i64 high] U)) fun e w' => e = .returned (.bool (L.any (outB low high))) ∧ Below ((w.alloc (.cells #[.int .i64 low] T)).alloc (.cells #[.int .i64 high] U)).heap.size ((w.alloc (.cells #[.int .i64 low] T)).alloc (.cells #[.int .i64 high] U)) w') := Lib.hid (fun T U =>
    containsFunc_ints _ _ eWithin1 (outB low high) x L _ (h.below ((below1 w _).trans ((below1 _ _).mono (by simp)))) (fun z W hW => by
      refine within1_any _ _ _ _ _ _ ?_ ?_
      · rw [hW.cell (by simp; omega)]
        simp
      · rw [hW.cell (by simp)]
        simp))
  generalize L.any (outB low high) = B at C ⊢
  go_enter Tryz.func229, Tryz.ntmps229
  go_wp2_with fail
  refine (C.out _ _).mono ?_
  rintro e w1 ⟨rfl, b1⟩
  have B1 := Lib.hid (((below1 w _).trans ((below1 _ _).mono (by simp))).trans (b1.mono (by simp; omega)))
  clear b1 C
  go_wp2_with fail
  go_ret
  exact ⟨rfl, B1.out⟩
end Go.Proofs.YtkhmocbfkpbpfaaGreatDoor

/- Contracts: slices.IndexFunc and ContainsFunc over rows; rightRows. -/
namespace Go.Proofs.YtkhmocbfkpbpfaaGreatDoor
open Go.RowKit

def anyRow (p : List Int → Bool) (R : List (List Int)) (k : Nat) : Prop := ∀ j, j < k → p (R.getD j []) = false
theorem row_mem (R : List (List Int)) (k : Nat) (hk : k < R.length) : R.getD k [] ∈ R := by
  rw [List.getD_eq_getElem?_getD, List.getElem?_eq_getElem hk]
  exact List.getElem_mem hk
theorem anyRow_yes {p : List Int → Bool} {R : List (List Int)} {k : Nat} (hk : k < R.length) (h : p (R.getD k []) = true) : R.any p = true := List.any_eq_true.2 ⟨_, row_mem R k hk, h⟩
theorem anyRow_no {p : List Int → Bool} {R : List (List Int)} (h : anyRow p R R.length) : R.any p = false := by
  rw [List.any_eq_false]
  intro x hx
  obtain ⟨j, hj, rfl⟩ := List.getElem_of_mem hx
  have := h j hj
  rw [List.getD_eq_getElem?_getD, List.getElem?_eq_getElem hj] at this
  simpa using this

set_option maxHeartbeats 1000000 in
theorem indexFunc_rows (g : Nat) (caps : Array Value) (eg : ∀ args w, (callFunc g args).run Tryz.prog w = .ok (.enter g args) w) (p : List Int → Bool) (x : Sl) (R : List (List Int)) (w : World) (h : IsRows w x R)
    (hp : ∀ (u : Sl) (r : List Int) (W : World), Below w.heap.size w W → IsInts W u r → Calls Tryz.prog g (#[.slice u.A u.n u.c] ++ caps) W fun e w' => e = .returned (.bool (p r)) ∧ Below W.heap.size W w') :
    Calls Tryz.prog 242 #[.slice x.A x.n x.c, .func (.func g) #[] caps] w fun e w' => (∃ k : Int, e = .returned (.int .i64 k) ∧ decide (0 ≤ k) = R.any p) ∧ Below w.heap.size w w' := by
  obtain ⟨A, n, c⟩ := x
  obtain ⟨hn, hlen, hL⟩ := h
  simp only at hn hL hlen ⊢
  have HL := Lib.hid hL
  have HP := Lib.hid hp
  have Hn := Lib.hid hn.symm
  clear hp hL hn
  go_enter Tryz.func242, Tryz.ntmps242
  go_wp2_with fail
  go_loopw [8] (fun i wr => ∃ k : Nat, i = .int .i64 (k : Nat) ∧ k ≤ n ∧ Hid (anyRow p R k) ∧ Hid (Below w.heap.size w wr)) (fun i _ => n - (intOf i).toNat)
  case atStart => exact ⟨0, rfl, by omega, Lib.hid (fun j hj => absurd hj (by omega)), Lib.hid (Below.refl _ _)⟩
  case round =>
    obtain ⟨k, rfl, hk, H0, HB⟩ := hrel
    by_cases hlt : k < n
    · obtain ⟨ad, rfl, hbk, hcl⟩ := HL.out (by omega)
      obtain ⟨u, hu, hr⟩ := hcl k hlt
      have hck : wr.cell? (ad.add k) = some (.slice u.A u.n u.c) := (HB.out.cell (by rw [add_block]; exact hbk)).trans hu
      have HY := Lib.hid (anyRow_yes (p := p) (R := R) (k := k) (by rw [Hn.out]; exact hlt))
      have HN : Hid (p (R.getD k []) = false → anyRow p R (k + 1)) := Lib.hid (fun e j hj => by
        by_cases h : j < k
        · exact H0.out j h
        · obtain rfl : j = k := by omega
          exact e)
      have cS := Lib.hid (HP.out u (R.getD k []) wr HB.out (hr.below HB.out))
      clear hcl hbk hu hr
      generalize R.getD k [] = z at HY HN cS
      cases hz : p z
      · have HN2 := Lib.hid (HN.out hz)
        rw [hz] at cS
        clear HN HY hz
        go_wp2_with fail
        refine cS.out.mono ?_
        rintro e w1 ⟨rfl, b1⟩
        have B1 := Lib.hid (HB.out.trans (b1.mono HB.out.size))
        clear b1
        go_wp2_with fail
        go_roundw
        case rel => exact ⟨k + 1, by go_num, by omega, HN2, B1⟩
        case measure => simp [intOf]; omega
      · have HY2 := Lib.hid (HY.out hz)
        rw [hz] at cS
        clear HN HY hz
        go_wp2_with fail
        refine cS.out.mono ?_
        rintro e w1 ⟨rfl, b1⟩
        have B1 := Lib.hid (HB.out.trans (b1.mono HB.out.size))
        clear b1
        go_wp2_with fail
        go_ret
        exact ⟨⟨_, rfl, by rw [HY2.out]; simp⟩, B1.out⟩
    · have HN : Hid (R.any p = false) := Lib.hid (anyRow_no (by rw [Hn.out]; have := H0.out; rwa [show k = n by omega] at this))
      clear H0
      go_wp2_with fail
      go_ret
      exact ⟨⟨_, rfl, by rw [HN.out]; simp⟩, HB.out⟩

theorem containsFunc_rows (g : Nat) (caps : Array Value) (eg : ∀ args w, (callFunc g args).run Tryz.prog w = .ok (.enter g args) w) (p : List Int → Bool) (x : Sl) (R : List (List Int)) (w : World) (h : IsRows w x R)
    (hp : ∀ (u : Sl) (r : List Int) (W : World), Below w.heap.size w W → IsInts W u r → Calls Tryz.prog g (#[.slice u.A u.n u.c] ++ caps) W fun e w' => e = .returned (.bool (p r)) ∧ Below W.heap.size W w') :
    Calls Tryz.prog 205 #[.slice x.A x.n x.c, .func (.func g) #[] caps] w fun e w' => e = .returned (.bool (R.any p)) ∧ Below w.heap.size w w' := by
  have C := Lib.hid (indexFunc_rows g caps eg p x R w h hp)
  clear hp h
  go_enter Tryz.func205, Tryz.ntmps205
  go_wp2_with fail
  refine C.out.mono ?_
  rintro e w1 ⟨⟨k, rfl, hk⟩, b1⟩
  have B1 := Lib.hid b1
  have HK := Lib.hid hk
  clear b1 hk
  go_wp2_with fail
  go_ret
  exact ⟨ret_bool HK.out, B1.out⟩

theorem eRows1 : ∀ args w, (callFunc 248 args).run Tryz.prog w = .ok (.enter 248 args) w := enters_of Tryz.func248 (by kernel_rfl) rfl

theorem rows1_any (u : Sl) (b : Nat) (x : Sl) (w : World) (hc : w.cell? ⟨b, 1, none⟩ = some (.slice x.A x.n x.c)) : Calls Tryz.prog 248 (#[.slice u.A u.n u.c] ++ #[.pointer (some ⟨b, 0, none⟩)]) w fun e w' => e = .returned (.bool (u.n != x.n)) ∧ Below w.heap.size w w' := by
  show Calls Tryz.prog 248 #[.slice u.A u.n u.c, .pointer (some ⟨b, 0, none⟩)] w _
  go_enter Tryz.func248, Tryz.ntmps248
  go_wp2_with fail
  go_ret
  refine ⟨ret_bool ?_, Below.refl _ _⟩
  rw [Bool.eq_iff_iff]
  simp <;> omega

/-- Are there as many rows as must be, each as long as A? -/
def rowsB (c : ConL) (shape : ByteArray) : Bool := if hasC shape 114 then decide (1 ≤ c.rows.length) && decide (c.rows.length ≤ 1024) && !c.rows.any (fun r => r.length != c.A.length) else c.rows.length == 0

theorem rightRows_any (v : ConV) (c : ConL) (shape : ByteArray) (w : World) (h : ConIn w v c) : Calls Tryz.prog 225 #[v.val c.kind c.K, .string shape] w fun e w' => e = .returned (.bool (rowsB c shape)) ∧ Below w.heap.size w w' := by
  have C0 := Lib.hid (fun W => contains_one shape 114 W)
  have hl : v.r.n = c.rows.length := h.r.len
  have C1 : Hid (Calls Tryz.prog 205 #[.slice v.r.A v.r.n v.r.c, .func (.func 248) #[] #[.pointer (some ⟨w.heap.size, 0, none⟩)]] (w.alloc (.cells (v.cells c.kind c.K) 32)) fun e w' => e = .returned (.bool (c.rows.any (fun r => r.length != c.A.length))) ∧ Below (w.alloc (.cells (v.cells c.kind c.K) 32)).heap.size (w.alloc (.cells (v.cells c.kind c.K) 32)) w') :=
    Lib.hid (containsFunc_rows _ _ eRows1 (fun r => r.length != c.A.length) v.r c.rows _ (h.r.below (below1 w _)) (fun u r W hW hu => by
      rw [← hu.len, ← h.a.len]
      refine rows1_any u w.heap.size v.a W ?_
      rw [hW.cell (by simp)]
      simp))
  unfold rowsB
  generalize c.rows.any (fun r => r.length != c.A.length) = B at C1 ⊢
  rw [← hl]
  generalize c.kind = kd at *
  generalize c.K = kk at *
  have hlen := h.r.big
  clear h hl
  cases hh : hasC shape 114 <;> rw [hh] at C0
  · go_enter Tryz.func225, Tryz.ntmps225
    go_wp2_with fail
    refine (C0.out _).mono ?_
    rintro e w1 ⟨rfl, rfl⟩
    go_wp2_with fail
    go_ret
    refine ⟨ret_bool ?_, below1 _ _⟩
    rw [Bool.eq_iff_iff]
    simp <;> omega
  · by_cases h1 : 1 ≤ v.r.n
    · by_cases h2 : v.r.n ≤ 1024
      · go_enter Tryz.func225, Tryz.ntmps225
        go_wp2_with fail
        refine (C0.out _).mono ?_
        rintro e w1 ⟨rfl, rfl⟩
        go_wp2_with fail
        refine C1.out.mono ?_
        rintro e w1 ⟨rfl, b1⟩
        have B1 := Lib.hid ((below1 w _).trans (b1.mono (by simp)))
        clear b1
        go_wp2_with fail
        go_ret
        exact ⟨ret_bool (by simp <;> omega), B1.out⟩
      · go_enter Tryz.func225, Tryz.ntmps225
        go_wp2_with fail
        refine (C0.out _).mono ?_
        rintro e w1 ⟨rfl, rfl⟩
        go_wp2_with fail
        go_ret
        exact ⟨ret_bool (by simp <;> omega), below1 _ _⟩
    · go_enter Tryz.func225, Tryz.ntmps225
      go_wp2_with fail
      refine (C0.out _).mono ?_
      rintro e w1 ⟨rfl, rfl⟩
      go_wp2_with fail
      go_ret
      exact ⟨ret_bool (by simp <;> omega), below1 _ _⟩
end Go.Proofs.YtkhmocbfkpbpfaaGreatDoor

/- Contracts: how many elements lists must have. -/
namespace Go.Proofs.YtkhmocbfkpbpfaaGreatDoor
open Go.RowKit

def szV (s : Int × Int) : Value := .agg #[.int .i64 s.1, .int .i64 s.2]
def inS (s : Int × Int) (n : Int) : Bool := decide (s.1 ≤ n) && decide (n ≤ s.2)

/-- What a call leaves that hands back a pair of numbers. -/
def GivesSz (w : World) (s : Int × Int) (e : Ending) (w' : World) : Prop := e = .returned (.agg #[.int .i64 s.1, .int .i64 s.2]) ∧ Below w.heap.size w w'

theorem out2_below {B : Nat} {a w : World} (h : Below B a w) (g : Nat) (hg : B ≤ g) (v0 v1 : Value) :
    Below B a ((w.setCell ⟨g, 0, none⟩ v0).setCell ⟨g, 1, none⟩ v1) :=
  (h.setCell (p := ⟨g, 0, none⟩) hg v0).setCell (p := ⟨g, 1, none⟩) hg v1
theorem out2_cells (w : World) (g : Nat) (u0 u1 v0 v1 : Value) (h0 : w.cell? ⟨g, 0, none⟩ = some u0) (h1 : w.cell? ⟨g, 1, none⟩ = some u1) :
    ((w.setCell ⟨g, 0, none⟩ v0).setCell ⟨g, 1, none⟩ v1).cell? ⟨g, 0, none⟩ = some v0 ∧ ((w.setCell ⟨g, 0, none⟩ v0).setCell ⟨g, 1, none⟩ v1).cell? ⟨g, 1, none⟩ = some v1 := by
  refine ⟨?_, ?_⟩
  · rw [World.cell?_setCell_other _ _ _ _ (by simp)]
    exact World.cell?_setCell_same _ _ _ h0
  · refine World.cell?_setCell_same (u := u1) _ _ _ ?_
    rw [World.cell?_setCell_other _ _ _ _ (by simp)]
    exact h1
/-- A box of two cells, and of eight. -/
theorem boxed2 {w W : World} {a b : Value} {t : TypeId} (h : Below (w.heap.size + 1) (w.alloc (.cells #[a, b] t)) W) :
    W.cell? ⟨w.heap.size, 0, none⟩ = some a ∧ W.cell? ⟨w.heap.size, 1, none⟩ = some b ∧ W.frozen? ⟨w.heap.size, 0, none⟩ = false ∧ W.frozen? ⟨w.heap.size, 1, none⟩ = false :=
  ⟨by rw [h.cell (by simp)]; simp, by rw [h.cell (by simp)]; simp, by rw [h.frozen (by simp)]; simp, by rw [h.frozen (by simp)]; simp⟩

theorem just_any (n : Int) (w : World) : Calls Tryz.prog 246 #[.int .i64 n] w (GivesSz w (n, n)) := by
  go_enter Tryz.func246, Tryz.ntmps246
  go_wp2
  exact bodyPost_ret (v := .agg #[.int .i64 n, .int .i64 n]) (by simp [results, Tryz.results246, go_sem]) rfl ⟨rfl, below1 _ _⟩
theorem some_any (w : World) : Calls Tryz.prog 247 #[] w (GivesSz w (1, 64)) := by
  go_enter Tryz.func247, Tryz.ntmps247
  go_wp2
  exact bodyPost_ret (v := .agg #[.int .i64 1, .int .i64 64]) (by simp [results, Tryz.results247, go_sem]) rfl ⟨rfl, below1 _ _⟩
theorem has_any (s : Int × Int) (n : Int) (w : World) : Calls Tryz.prog 221 #[.agg #[.int .i64 s.1, .int .i64 s.2], .int .i64 n] w fun e w' => e = .returned (.bool (inS s n)) ∧ Below w.heap.size w w' := by
  obtain ⟨l, m⟩ := s
  unfold inS
  by_cases h0 : l ≤ n
  · go_enter Tryz.func221, Tryz.ntmps221
    go_wp2_with fail
    go_ret
    exact ⟨ret_bool (by simp <;> omega), below1 _ _⟩
  · go_enter Tryz.func221, Tryz.ntmps221
    go_wp2_with fail
    go_ret
    exact ⟨ret_bool (by simp <;> omega), below1 _ _⟩

def sizeA (c : ConL) (sh : ByteArray) : Int × Int := if c.kind = 12 then (0, 64) else if 0 < (bl sh).count 118 then (((bl sh).count 118 : Nat), ((bl sh).count 118 : Nat)) else (1, 64)
def sizeB (c : ConL) (sh : ByteArray) : Int × Int := if c.kind = 12 then (max 0 (1 - (c.A.length : Int)), 64) else if hasC sh 87 then ((c.A.length : Nat), (c.A.length : Nat)) else if hasC sh 119 then (1, 1) else (0, 0)
def sizeC (c : ConL) (sh : ByteArray) : Int × Int := if hasC sh 99 then (if c.kind = 11 ∨ c.kind = 21 then (1, 64) else ((c.A.length : Nat), (c.A.length : Nat))) else (0, 0)
def sizeL (c : ConL) (sh : ByteArray) (x : UInt8) : Int × Int := if hasC sh x then ((c.C.length : Nat), (c.C.length : Nat)) else (0, 0)

theorem sizeOfA_any (v : ConV) (c : ConL) (sh : ByteArray) (w : World) : Calls Tryz.prog 220 #[v.val c.kind c.K, .string sh] w (GivesSz w (sizeA c sh)) := by
  have C0 := Lib.hid (fun W => count_one sh 118 W)
  have C1 := Lib.hid just_any
  have C2 := Lib.hid some_any
  unfold sizeA
  generalize (bl sh).count 118 = N at C0 ⊢
  generalize c.kind = kd at *
  generalize c.K = kk at *
  by_cases h12 : kd = 12
  · rw [if_pos h12]
    have hb : (kd == 12) = true := by simpa using h12
    clear h12
    go_enter Tryz.func220, Tryz.ntmps220
    go_wp2_with fail
    exact bodyPost_ret (v := .agg #[.int .i64 0, .int .i64 64]) (by simp [results, Tryz.results220, go_sem]) rfl ⟨rfl, (below1 _ _).trans ((below1 _ _).mono (by simp))⟩
  · rw [if_neg h12]
    have hb : (kd == 12) = false := by simpa using h12
    clear h12
    by_cases h0 : 0 < N
    · rw [if_pos h0]
      go_enter Tryz.func220, Tryz.ntmps220
      go_wp2_with fail
      refine (C0.out _).mono ?_
      rintro e w1 ⟨rfl, rfl⟩
      go_wp2_with fail
      refine (C1.out (N : Nat) _).mono ?_
      rintro e w2 ⟨rfl, b2⟩
      have b3 : Below ((w.alloc (.cells (v.cells kd kk) 32)).heap.size + 1) _ w2 := b2.mono (by simp)
      obtain ⟨q0, q1, f0, f1⟩ := boxed2 b3
      simp only [World.size_alloc] at q0 q1 f0 f1
      have B1 : Hid (Below w.heap.size w w2) := Lib.hid ((below1 w _).trans ((of_boxed b3).mono (by simp)))
      clear b2 b3
      go_wp2_with fail
      obtain ⟨p0, p1⟩ := out2_cells w2 (w.heap.size + 1) _ _ (.int .i64 ((N : Nat) : Int)) (.int .i64 ((N : Nat) : Int)) q0 q1
      exact bodyPost_ret (v := .agg #[.int .i64 ((N : Nat) : Int), .int .i64 ((N : Nat) : Int)]) (by simp [results, Tryz.results220, go_sem, p0, p1]) rfl ⟨rfl, out2_below B1.out _ (by omega) _ _⟩
    · rw [if_neg h0]
      go_enter Tryz.func220, Tryz.ntmps220
      go_wp2_with fail
      refine (C0.out _).mono ?_
      rintro e w1 ⟨rfl, rfl⟩
      go_wp2_with fail
      refine (C2.out _).mono ?_
      rintro e w2 ⟨rfl, b2⟩
      have b3 : Below ((w.alloc (.cells (v.cells kd kk) 32)).heap.size + 1) _ w2 := b2.mono (by simp)
      obtain ⟨q0, q1, f0, f1⟩ := boxed2 b3
      simp only [World.size_alloc] at q0 q1 f0 f1
      have B1 : Hid (Below w.heap.size w w2) := Lib.hid ((below1 w _).trans ((of_boxed b3).mono (by simp)))
      clear b2 b3
      go_wp2_with fail
      obtain ⟨p0, p1⟩ := out2_cells w2 (w.heap.size + 1) _ _ (.int .i64 1) (.int .i64 64) q0 q1
      exact bodyPost_ret (v := .agg #[.int .i64 1, .int .i64 64]) (by simp [results, Tryz.results220, go_sem, p0, p1]) rfl ⟨rfl, out2_below B1.out _ (by omega) _ _⟩

theorem sizeOfB_any (v : ConV) (c : ConL) (sh : ByteArray) (w : World) (hl : v.a.n = c.A.length) (hn : v.a.n ≤ 4611686018427387903) : Calls Tryz.prog 222 #[v.val c.kind c.K, .string sh] w (GivesSz w (sizeB c sh)) := by
  have C0 := Lib.hid (fun W => contains_one sh 87 W)
  have C3 := Lib.hid (fun W => contains_one sh 119 W)
  have C1 := Lib.hid just_any
  unfold sizeB
  rw [← hl]
  clear hl
  generalize c.kind = kd at *
  generalize c.K = kk at *
  by_cases h12 : kd = 12
  · rw [if_pos h12]
    have hb : (kd == 12) = true := by simpa using h12
    clear h12
    go_enter Tryz.func222, Tryz.ntmps222
    go_wp2_with fail
    exact bodyPost_ret (v := .agg #[.int .i64 (max 0 (1 - ((v.a.n : Nat) : Int))), .int .i64 64]) (by simp [results, Tryz.results222, go_sem]) rfl ⟨rfl, (below1 _ _).trans ((below1 _ _).mono (by simp))⟩
  · rw [if_neg h12]
    have hb : (kd == 12) = false := by simpa using h12
    clear h12
    cases h87 : hasC sh 87 <;> rw [h87] at C0
    · cases h119 : hasC sh 119 <;> rw [h119] at C3
      · go_enter Tryz.func222, Tryz.ntmps222
        go_wp2_with fail
        refine (C0.out _).mono ?_
        rintro e w1 ⟨rfl, rfl⟩
        go_wp2_with fail
        refine (C3.out _).mono ?_
        rintro e w1 ⟨rfl, rfl⟩
        go_wp2_with fail
        exact bodyPost_ret (v := .agg #[.int .i64 0, .int .i64 0]) (by simp [results, Tryz.results222, go_sem]) rfl ⟨rfl, (below1 _ _).trans ((below1 _ _).mono (by simp))⟩
      · go_enter Tryz.func222, Tryz.ntmps222
        go_wp2_with fail
        refine (C0.out _).mono ?_
        rintro e w1 ⟨rfl, rfl⟩
        go_wp2_with fail
        refine (C3.out _).mono ?_
        rintro e w1 ⟨rfl, rfl⟩
        go_wp2_with fail
        refine (C1.out 1 _).mono ?_
        rintro e w2 ⟨rfl, b2⟩
        have b3 : Below ((w.alloc (.cells (v.cells kd kk) 32)).heap.size + 1) _ w2 := b2.mono (by simp)
        obtain ⟨q0, q1, f0, f1⟩ := boxed2 b3
        simp only [World.size_alloc] at q0 q1 f0 f1
        have B1 : Hid (Below w.heap.size w w2) := Lib.hid ((below1 w _).trans ((of_boxed b3).mono (by simp)))
        clear b2 b3
        go_wp2_with fail
        obtain ⟨p0, p1⟩ := out2_cells w2 (w.heap.size + 1) _ _ (.int .i64 1) (.int .i64 1) q0 q1
        exact bodyPost_ret (v := .agg #[.int .i64 1, .int .i64 1]) (by simp [results, Tryz.results222, go_sem, p0, p1]) rfl ⟨rfl, out2_below B1.out _ (by omega) _ _⟩
    · go_enter Tryz.func222, Tryz.ntmps222
      go_wp2_with fail
      refine (C0.out _).mono ?_
      rintro e w1 ⟨rfl, rfl⟩
      go_wp2_with fail
      refine (C1.out (v.a.n : Nat) _).mono ?_
      rintro e w2 ⟨rfl, b2⟩
      have b3 : Below ((w.alloc (.cells (v.cells kd kk) 32)).heap.size + 1) _ w2 := b2.mono (by simp)
      obtain ⟨q0, q1, f0, f1⟩ := boxed2 b3
      simp only [World.size_alloc] at q0 q1 f0 f1
      have B1 : Hid (Below w.heap.size w w2) := Lib.hid ((below1 w _).trans ((of_boxed b3).mono (by simp)))
      clear b2 b3
      go_wp2_with fail
      obtain ⟨p0, p1⟩ := out2_cells w2 (w.heap.size + 1) _ _ (.int .i64 ((v.a.n : Nat) : Int)) (.int .i64 ((v.a.n : Nat) : Int)) q0 q1
      exact bodyPost_ret (v := .agg #[.int .i64 ((v.a.n : Nat) : Int), .int .i64 ((v.a.n : Nat) : Int)]) (by simp [results, Tryz.results222, go_sem, p0, p1]) rfl ⟨rfl, out2_below B1.out _ (by omega) _ _⟩

theorem sizeOfC_any (v : ConV) (c : ConL) (sh : ByteArray) (w : World) (hl : v.a.n = c.A.length) : Calls Tryz.prog 223 #[v.val c.kind c.K, .string sh] w (GivesSz w (sizeC c sh)) := by
  have C0 := Lib.hid (fun W => contains_one sh 99 W)
  have C1 := Lib.hid just_any
  have C2 := Lib.hid some_any
  unfold sizeC
  rw [← hl]
  clear hl
  generalize c.kind = kd at *
  generalize c.K = kk at *
  cases h99 : hasC sh 99 <;> rw [h99] at C0
  · go_enter Tryz.func223, Tryz.ntmps223
    go_wp2_with fail
    refine (C0.out _).mono ?_
    rintro e w1 ⟨rfl, rfl⟩
    go_wp2_with fail
    exact bodyPost_ret (v := .agg #[.int .i64 0, .int .i64 0]) (by simp [results, Tryz.results223, go_sem]) rfl ⟨rfl, (below1 _ _).trans ((below1 _ _).mono (by simp))⟩
  · by_cases h11 : kd = 11
    · rw [if_pos rfl, if_pos (.inl h11)]
      have hb : (kd == 11) = true := by simpa using h11
      clear h11
      go_enter Tryz.func223, Tryz.ntmps223
      go_wp2_with fail
      refine (C0.out _).mono ?_
      rintro e w1 ⟨rfl, rfl⟩
      go_wp2_with fail
      refine (C2.out _).mono ?_
      rintro e w2 ⟨rfl, b2⟩
      have b3 : Below ((w.alloc (.cells (v.cells kd kk) 32)).heap.size + 1) _ w2 := b2.mono (by simp)
      obtain ⟨q0, q1, f0, f1⟩ := boxed2 b3
      simp only [World.size_alloc] at q0 q1 f0 f1
      have B1 : Hid (Below w.heap.size w w2) := Lib.hid ((below1 w _).trans ((of_boxed b3).mono (by simp)))
      clear b2 b3
      go_wp2_with fail
      obtain ⟨p0, p1⟩ := out2_cells w2 (w.heap.size + 1) _ _ (.int .i64 1) (.int .i64 64) q0 q1
      exact bodyPost_ret (v := .agg #[.int .i64 1, .int .i64 64]) (by simp [results, Tryz.results223, go_sem, p0, p1]) rfl ⟨rfl, out2_below B1.out _ (by omega) _ _⟩
    · have hb : (kd == 11) = false := by simpa using h11
      by_cases h21 : kd = 21
      · rw [if_pos rfl, if_pos (.inr h21)]
        have hb2 : (kd == 21) = true := by simpa using h21
        clear h11 h21
        go_enter Tryz.func223, Tryz.ntmps223
        go_wp2_with fail
        refine (C0.out _).mono ?_
        rintro e w1 ⟨rfl, rfl⟩
        go_wp2_with fail
        refine (C2.out _).mono ?_
        rintro e w2 ⟨rfl, b2⟩
        have b3 : Below ((w.alloc (.cells (v.cells kd kk) 32)).heap.size + 1) _ w2 := b2.mono (by simp)
        obtain ⟨q0, q1, f0, f1⟩ := boxed2 b3
        simp only [World.size_alloc] at q0 q1 f0 f1
        have B1 : Hid (Below w.heap.size w w2) := Lib.hid ((below1 w _).trans ((of_boxed b3).mono (by simp)))
        clear b2 b3
        go_wp2_with fail
        obtain ⟨p0, p1⟩ := out2_cells w2 (w.heap.size + 1) _ _ (.int .i64 1) (.int .i64 64) q0 q1
        exact bodyPost_ret (v := .agg #[.int .i64 1, .int .i64 64]) (by simp [results, Tryz.results223, go_sem, p0, p1]) rfl ⟨rfl, out2_below B1.out _ (by omega) _ _⟩
      · rw [if_pos rfl, if_neg (by omega)]
        have hb2 : (kd == 21) = false := by simpa using h21
        clear h11 h21
        go_enter Tryz.func223, Tryz.ntmps223
        go_wp2_with fail
        refine (C0.out _).mono ?_
        rintro e w1 ⟨rfl, rfl⟩
        go_wp2_with fail
        refine (C1.out (v.a.n : Nat) _).mono ?_
        rintro e w2 ⟨rfl, b2⟩
        have b3 : Below ((w.alloc (.cells (v.cells kd kk) 32)).heap.size + 1) _ w2 := b2.mono (by simp)
        obtain ⟨q0, q1, f0, f1⟩ := boxed2 b3
        simp only [World.size_alloc] at q0 q1 f0 f1
        have B1 : Hid (Below w.heap.size w w2) := Lib.hid ((below1 w _).trans ((of_boxed b3).mono (by simp)))
        clear b2 b3
        go_wp2_with fail
        obtain ⟨p0, p1⟩ := out2_cells w2 (w.heap.size + 1) _ _ (.int .i64 ((v.a.n : Nat) : Int)) (.int .i64 ((v.a.n : Nat) : Int)) q0 q1
        exact bodyPost_ret (v := .agg #[.int .i64 ((v.a.n : Nat) : Int), .int .i64 ((v.a.n : Nat) : Int)]) (by simp [results, Tryz.results223, go_sem, p0, p1]) rfl ⟨rfl, out2_below B1.out _ (by omega) _ _⟩

theorem sizeLikeC_any (v : ConV) (c : ConL) (sh : ByteArray) (x : UInt8) (w : World) (hl : v.c.n = c.C.length) : Calls Tryz.prog 224 #[v.val c.kind c.K, .string sh, .string ⟨#[x]⟩] w (GivesSz w (sizeL c sh x)) := by
  have C0 := Lib.hid (fun W => contains_one sh x W)
  have C1 := Lib.hid just_any
  unfold sizeL
  rw [← hl]
  clear hl
  generalize c.kind = kd at *
  generalize c.K = kk at *
  cases h99 : hasC sh x <;> rw [h99] at C0
  · go_enter Tryz.func224, Tryz.ntmps224
    go_wp2_with fail
    refine (C0.out _).mono ?_
    rintro e w1 ⟨rfl, rfl⟩
    go_wp2_with fail
    exact bodyPost_ret (v := .agg #[.int .i64 0, .int .i64 0]) (by simp [results, Tryz.results224, go_sem]) rfl ⟨rfl, (below1 _ _).trans ((below1 _ _).mono (by simp))⟩
  · go_enter Tryz.func224, Tryz.ntmps224
    go_wp2_with fail
    refine (C0.out _).mono ?_
    rintro e w1 ⟨rfl, rfl⟩
    go_wp2_with fail
    refine (C1.out (v.c.n : Nat) _).mono ?_
    rintro e w2 ⟨rfl, b2⟩
    have b3 : Below ((w.alloc (.cells (v.cells kd kk) 32)).heap.size + 1) _ w2 := b2.mono (by simp)
    obtain ⟨q0, q1, f0, f1⟩ := boxed2 b3
    simp only [World.size_alloc] at q0 q1 f0 f1
    have B1 : Hid (Below w.heap.size w w2) := Lib.hid ((below1 w _).trans ((of_boxed b3).mono (by simp)))
    clear b2 b3
    go_wp2_with fail
    obtain ⟨p0, p1⟩ := out2_cells w2 (w.heap.size + 1) _ _ (.int .i64 ((v.c.n : Nat) : Int)) (.int .i64 ((v.c.n : Nat) : Int)) q0 q1
    exact bodyPost_ret (v := .agg #[.int .i64 ((v.c.n : Nat) : Int), .int .i64 ((v.c.n : Nat) : Int)]) (by simp [results, Tryz.results224, go_sem, p0, p1]) rfl ⟨rfl, out2_below B1.out _ (by omega) _ _⟩
end Go.Proofs.YtkhmocbfkpbpfaaGreatDoor
