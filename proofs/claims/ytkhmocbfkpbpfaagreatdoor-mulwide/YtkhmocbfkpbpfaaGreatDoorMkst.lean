/- Contracts: valuesOf, Compare, needed; the closures of meets. -/
import Derived.Test.YtkhmocbfkpbpfaaGreatDoorGfn3
import Derived.Test.YtkhmocbfkpbpfaaGreatDoorMshapes
import Derived.Test.YtkhmocbfkpbpfaaGreatDoorMkp
namespace Go.Proofs.YtkhmocbfkpbpfaaGreatDoor
open Go.RowKit Go.Sort

/-- A row of numbers that is being filled. -/
def RV (ss : List Int) (n k : Nat) : List Value := (ss.take k).map (Value.int .i64) ++ List.replicate (n - k) (.int .i64 0)
theorem RV_set {ss : List Int} {n k : Nat} (h : k < ss.length) (hn : k < n) : (RV ss n k).set k (.int .i64 (ss.getD k 0)) = RV ss n (k + 1) := by
  unfold RV
  have hl : ((ss.take k).map (Value.int .i64)).length = k := by rw [List.length_map, List.length_take]; omega
  rw [List.set_append_right _ _ (by omega), hl, Nat.sub_self]
  obtain ⟨j, hj⟩ : ∃ j, n - k = j + 1 := ⟨n - k - 1, by omega⟩
  rw [hj, List.replicate_succ, List.set_cons_zero, show n - (k + 1) = j by omega, List.take_add_one, List.getElem?_eq_getElem h, List.map_append, List.append_assoc, List.getD_eq_getElem?_getD, List.getElem?_eq_getElem h]
  rfl
theorem RV_at {ss : List Int} {n k : Nat} (hs : k ≤ ss.length) (hn : k < n) : (RV ss n k)[k]? = some (RV ss n k)[k]?.get! := by
  have : k < (RV ss n k).length := by
    unfold RV
    rw [List.length_append, List.length_replicate, List.length_map, List.length_take]
    rw [Nat.min_eq_left hs]; omega
  rw [List.getElem?_eq_getElem this]
  rfl
theorem RV_full (ss : List Int) : RV ss ss.length ss.length = I ss := by
  unfold RV I
  rw [Nat.sub_self, List.replicate_zero, List.append_nil, List.take_length]
theorem ints_own {w : World} {base : Nat} {y : Sl} {zs : List Int} (h : w.ownsRow base 3 1 (.slice y.A y.n y.c) zs.length (I zs)) (hs : zs.length ≤ 4611686018427387903) : IsInts w y zs := by
  obtain ⟨A, n, c⟩ := y
  obtain ⟨A', c', e, hL, hc⟩ := own_lies h
  simp only [Value.slice.injEq] at e
  obtain ⟨rfl, rfl, rfl⟩ := e
  exact ⟨rfl, hL, hs, hc⟩

set_option maxHeartbeats 1000000 in
theorem values_any (x y : Sl) (L a : List Int) (w : World) (hx : IsInts w x L) (hy : IsInts w y a) (hs : L.length ≤ 64) (hin : ∀ v ∈ L, 0 ≤ v ∧ v < (a.length : Int)) :
    Calls Tryz.prog 163 #[.slice x.A x.n x.c, .slice y.A y.n y.c] w fun e w' => (∃ z : Sl, e = .returned (.slice z.A z.n z.c) ∧ IsInts w' z (valsE L a)) ∧ Below w.heap.size w w' := by
  obtain ⟨A, n, c⟩ := x
  obtain ⟨hn, hL, hbig, hcap⟩ := hx
  obtain ⟨yA, yn, yc⟩ := y
  simp only at hn hL hbig ⊢
  obtain ⟨i0, hi, hz0, hz1, hz2⟩ := info_parts Tryz.info3
  have hmk : (Instr.makeSlice 30 (.int .i64 (n : Nat)) (.int .i64 (n : Nat))).run Tryz.prog w = .ok (.slice (some ⟨w.heap.size, 0, none⟩) n n) (w.alloc (.cells (madeCells #[.int .i64 0] n) 3)) := by
    have := run_make (P := Tryz.prog) w 30 3 i0 (.int .i64 0) Tryz.underlying30 hi hz0 .i64 .i64 (n : Nat) (n : Nat) (by omega) (by omega) (by rw [hz2]; omega) (by omega)
    rw [this, hz1]
    simp [Value.cells]
  have hrow : (w.alloc (.cells (madeCells #[.int .i64 0] n) 3)).ownsRow w.heap.size 3 1 (.slice (some ⟨w.heap.size, 0, none⟩) n n) n (RV (valsE L a) n 0) := by
    have := World.ownsRow_lit (base := w.heap.size) (e := 3) (size := 1) w (madeCells #[Value.int .i64 0] n) n (Nat.le_refl _) (by unfold maxLen; omega) (by simp [madeCells])
    rw [toList_madeCells_one] at this
    simpa [RV] using this
  have HR := Lib.hid hrow
  have HL := Lib.hid hL
  have Hn := Lib.hid hn.symm
  have HY := Lib.hid hy
  have HI := Lib.hid hin
  have hn6 : n ≤ 64 := by omega
  clear hL hn hs hi hz0 hz1 hz2 hrow hy hin
  go_enter Tryz.func163, Tryz.ntmps163
  go_wp2_with fail
  go_loopw [13] (fun i wr => ∃ k : Nat, k ≤ n ∧ i = .int .i64 (k : Nat) ∧ Hid (wr.ownsRow w.heap.size 3 1 (.slice (some ⟨w.heap.size, 0, none⟩) n n) n (RV (valsE L a) n k)) ∧ Hid (Below w.heap.size w wr)) (fun i _ => n - (intOf i).toNat)
  case atStart => exact ⟨0, by omega, rfl, HR, Lib.hid (below1 _ _)⟩
  case round =>
    obtain ⟨k, hk, rfl, HO, HB⟩ := hrel
    by_cases hlt : k < n
    · obtain ⟨ad, rfl, hbk, hcl⟩ := HL.out (by omega)
      have hck : wr.cell? (ad.add k) = some (.int .i64 (L.getD k 0)) := (HB.out.cell (by rw [add_block]; exact hbk)).trans (hcl k hlt)
      have hLk : k < L.length := by rw [Hn.out]; exact hlt
      have hv := HI.out _ (getD_mem L k hLk)
      have hvl : k < (valsE L a).length := by unfold valsE; rw [List.length_map]; exact hLk
      have HK : Hid (k ≤ (valsE L a).length) := Lib.hid (Nat.le_of_lt hvl)
      have HS := Lib.hid (RV_set (ss := valsE L a) (n := n) (k := k) hvl hlt)
      have hfk : (valsE L a).getD k 0 = atE a (L.getD k 0) := by
        unfold valsE
        rw [List.getD_eq_getElem?_getD, List.getElem?_map, List.getD_eq_getElem?_getD, List.getElem?_eq_getElem hLk]
        rfl
      rw [hfk] at HS
      obtain ⟨m, hm⟩ : ∃ m : Nat, L.getD k 0 = (m : Int) := ⟨(L.getD k 0).toNat, by omega⟩
      rw [hm] at hck HS hv
      obtain ⟨yl, yL, ybig, ycap⟩ := HY.out
      simp only at yl yL ybig ycap
      have hmy : m < yn := by omega
      obtain ⟨bd, rfl, hbb, hbl⟩ := yL (by omega)
      have hcb : wr.cell? (bd.add m) = some (.int .i64 (atE a (m : Int))) := (HB.out.cell (by rw [add_block]; exact hbb)).trans (hbl m hmy)
      generalize atE a (m : Int) = z at hcb HS
      have cw := HO.out.cellAt k (by omega)
      rw [RV_at (ss := valsE L a) (n := n) (k := k) HK.out hlt] at cw
      have fw := HO.out.frozenAt k
      have hst := (HO.out.stored k (.int .i64 z)).1
      rw [HS.out] at hst
      have HO2 := Lib.hid hst
      clear hst hcl hbk hfk hvl hLk hm hv yl yL ycap hbl hbb HO HS
      go_wp2_with fail
      go_roundw
      case rel => exact ⟨k + 1, by omega, by go_num, HO2, Lib.hid (HB.out.setCell (p := ⟨w.heap.size, k, none⟩) (Nat.le_refl _) _)⟩
      case measure => simp [intOf]; omega
    · have hl : (valsE L a).length = n := by unfold valsE; rw [List.length_map, Hn.out]
      have HF : Hid (IsInts wr ⟨some ⟨w.heap.size, 0, none⟩, n, n⟩ (valsE L a)) := Lib.hid (by
        have h0 := HO.out
        rw [show k = n by omega] at h0
        have h1 : RV (valsE L a) n n = I (valsE L a) := by
          have := RV_full (valsE L a)
          rwa [hl] at this
        rw [h1] at h0
        refine ints_own (y := ⟨some ⟨w.heap.size, 0, none⟩, n, n⟩) (base := w.heap.size) ?_ (by omega)
        rw [hl]
        exact h0)
      clear HO
      go_wp2_with fail
      go_ret
      exact ⟨⟨⟨some ⟨w.heap.size, 0, none⟩, n, n⟩, rfl, HF.out⟩, HB.out⟩

def cmpE (a b : Int) : Int := if a < b then -1 else if b < a then 1 else 0
theorem isNaN_any (a : Int) (w : World) : Calls Tryz.prog 198 #[.int .i64 a] w fun e w' => e = .returned (.bool false) ∧ w = w' := by
  go_enter Tryz.func198, Tryz.ntmps198
  go_wp2_with fail
  go_ret
  exact ⟨ret_bool (by simp), rfl⟩
theorem cmp_any (a b : Int) (w : World) : Calls Tryz.prog 243 #[.int .i64 a, .int .i64 b] w fun e w' => e = .returned (.int .i64 (cmpE a b)) ∧ w = w' := by
  have C1 := Lib.hid (isNaN_any a w)
  have C2 := Lib.hid (isNaN_any b w)
  unfold cmpE
  by_cases h1 : a < b
  · have e1 : decide (a < b) = true := by simpa using h1
    rw [if_pos h1]
    clear h1
    go_enter Tryz.func243, Tryz.ntmps243
    go_wp2_with fail
    refine C1.out.mono ?_
    rintro e w1 ⟨rfl, rfl⟩
    go_wp2_with fail
    refine C2.out.mono ?_
    rintro e w1 ⟨rfl, rfl⟩
    go_wp2_with fail
    go_ret
    exact ⟨rfl, rfl⟩
  · have e1 : decide (a < b) = false := by simpa using h1
    rw [if_neg h1]
    clear h1
    by_cases h2 : b < a
    · have e2 : decide (b < a) = true := by simpa using h2
      rw [if_pos h2]
      clear h2
      go_enter Tryz.func243, Tryz.ntmps243
      go_wp2_with fail
      refine C1.out.mono ?_
      rintro e w1 ⟨rfl, rfl⟩
      go_wp2_with fail
      refine C2.out.mono ?_
      rintro e w1 ⟨rfl, rfl⟩
      go_wp2_with fail
      go_ret
      exact ⟨rfl, rfl⟩
    · have e2 : decide (b < a) = false := by simpa using h2
      rw [if_neg h2]
      clear h2
      go_enter Tryz.func243, Tryz.ntmps243
      go_wp2_with fail
      refine C1.out.mono ?_
      rintro e w1 ⟨rfl, rfl⟩
      go_wp2_with fail
      refine C2.out.mono ?_
      rintro e w1 ⟨rfl, rfl⟩
      go_wp2_with fail
      go_ret
      exact ⟨rfl, rfl⟩

/-- What Compare tells of two lists. -/
def compE : List Int → List Int → Int
  | [], [] => 0
  | [], _ :: _ => -1
  | _ :: _, [] => 1
  | a :: s, b :: t => if cmpE a b != 0 then cmpE a b else compE s t
theorem comp_lex (x y : List Int) : decide (compE x y ≤ 0) = lexB x y := by
  induction x generalizing y with
  | nil => cases y <;> simp [compE, lexB]
  | cons a s ih =>
    cases y with
    | nil => simp [compE, lexB]
    | cons b t =>
      unfold compE lexB cmpE
      by_cases h1 : a < b
      · simp [h1]
      · by_cases h2 : b < a
        · simp [h1, h2]
        · simp only [h1, h2, if_false]
          simpa using ih t
theorem drop_at {L : List Int} {k : Nat} (h : k < L.length) : L.drop k = L.getD k 0 :: L.drop (k + 1) := by
  rw [List.drop_eq_getElem_cons h, List.getD_eq_getElem?_getD, List.getElem?_eq_getElem h]
  rfl

set_option maxHeartbeats 1000000 in
theorem compare_any (x y : Sl) (X Y : List Int) (w : World) (hx : IsInts w x X) (hy : IsInts w y Y) (hl : X.length = Y.length) :
    Calls Tryz.prog 212 #[.slice x.A x.n x.c, .slice y.A y.n y.c] w fun e w' => e = .returned (.int .i64 (compE X Y)) ∧ w = w' := by
  obtain ⟨A, n, c⟩ := x
  obtain ⟨hn, hL, hbig, hcap⟩ := hx
  obtain ⟨A', n', c'⟩ := y
  obtain ⟨hn', hL', hbig', hcap'⟩ := hy
  simp only at hn hL hbig hn' hL' ⊢
  obtain rfl : n' = n := by omega
  have HL := Lib.hid hL
  have HL' := Lib.hid hL'
  have HX := Lib.hid hn
  have HY := Lib.hid hn'
  have HE : Hid (compE X Y = compE (X.drop 0) (Y.drop 0)) := Lib.hid rfl
  generalize compE X Y = D at HE ⊢
  clear hL hL' hn hn' hl hcap hcap'
  go_enter Tryz.func212, Tryz.ntmps212
  go_wp2_with fail
  go_loopw [11] (fun i wr => ∃ (k : Nat), i = .int .i64 (k : Nat) ∧ k ≤ n' ∧ Hid (D = compE (X.drop k) (Y.drop k)) ∧ Hid (w = wr)) (fun i _ => n' - (intOf i).toNat)
  case atStart => exact ⟨0, rfl, by omega, HE, Lib.hid rfl⟩
  case round =>
    obtain ⟨k, rfl, hk, HT, HB⟩ := hrel
    by_cases hlt : k < n'
    · obtain ⟨ad, rfl, hbk, hcl⟩ := HL.out (by omega)
      obtain ⟨ad', rfl, hbk', hcl'⟩ := HL'.out (by omega)
      have hck : wr.cell? (ad.add k) = some (.int .i64 (X.getD k 0)) := by rw [← HB.out]; exact hcl k hlt
      have hck' : wr.cell? (ad'.add k) = some (.int .i64 (Y.getD k 0)) := by rw [← HB.out]; exact hcl' k hlt
      have HT2 : Hid (D = if cmpE (X.getD k 0) (Y.getD k 0) != 0 then cmpE (X.getD k 0) (Y.getD k 0) else compE (X.drop (k + 1)) (Y.drop (k + 1))) := Lib.hid (by rw [HT.out, drop_at (L := X) (k := k) (by rw [← HX.out]; exact hlt), drop_at (L := Y) (k := k) (by rw [← HY.out]; exact hlt), compE])
      have CC := Lib.hid (cmp_any (X.getD k 0) (Y.getD k 0) wr)
      clear hcl hbk hcl' hbk' HT
      generalize X.getD k 0 = a at *
      generalize Y.getD k 0 = b at *
      generalize cmpE a b = r at CC HT2
      cases hr : (r != 0)
      · have HT3 : Hid (D = compE (X.drop (k + 1)) (Y.drop (k + 1))) := Lib.hid (by rw [HT2.out, hr]; simp)
        clear HT2
        go_wp2_with fail
        refine CC.out.mono ?_
        rintro e w1 ⟨rfl, rfl⟩
        go_wp2_with fail
        go_roundw
        case rel => exact ⟨k + 1, by go_num, by omega, HT3, HB⟩
        case measure => simp [intOf]; omega
      · have HT3 : Hid (D = r) := Lib.hid (by rw [HT2.out, hr]; simp)
        clear HT2
        go_wp2_with fail
        refine CC.out.mono ?_
        rintro e w1 ⟨rfl, rfl⟩
        go_wp2_with fail
        go_ret
        exact ⟨by rw [HT3.out]; rfl, HB.out⟩
    · have HT2 : Hid (D = 0) := Lib.hid (by rw [HT.out, List.drop_of_length_le (by have := HX.out; omega), List.drop_of_length_le (by have := HY.out; omega)]; rfl)
      clear HT HE
      go_wp2_with fail
      go_ret
      exact ⟨by rw [HT2.out]; rfl, HB.out⟩
end Go.Proofs.YtkhmocbfkpbpfaaGreatDoor

/- A constraint that the document's Make is making: its box, its rows. No walk. -/
namespace Go.Proofs.YtkhmocbfkpbpfaaGreatDoor
open Go.RowKit Go.Sort

/-- All blocks but one stay. -/
structure Kp (G : Nat) (a b : World) : Prop where
  os : b.os = a.os
  tape : b.tape = a.tape
  output : b.output = a.output
  size : a.heap.size ≤ b.heap.size
  block : ∀ k, k < a.heap.size → k ≠ G → b.heap[k]? = a.heap[k]?
theorem Kp.refl (G : Nat) (a : World) : Kp G a a := ⟨rfl, rfl, rfl, Nat.le_refl _, fun _ _ _ => rfl⟩
theorem Kp.trans {G : Nat} {a b c : World} (h : Kp G a b) (k : Kp G b c) : Kp G a c :=
  ⟨k.os.trans h.os, k.tape.trans h.tape, k.output.trans h.output, Nat.le_trans h.size k.size, fun i hi hS => (k.block i (Nat.lt_of_lt_of_le hi h.size) hS).trans (h.block i hi hS)⟩
theorem Kp.of_below {G : Nat} {a b : World} (h : Below a.heap.size a b) : Kp G a b := ⟨h.os, h.tape, h.output, h.size, fun k hk _ => h.block k hk⟩
theorem Kp.drew {G : Nat} {a b : World} (h : Kp G a b) : Kp G a b.drew := ⟨h.os, h.tape, h.output, h.size, h.block⟩
theorem Kp.alloc {G : Nat} {a b : World} (h : Kp G a b) (o : Obj) : Kp G a (b.alloc o) := h.trans (Kp.of_below ((Below.refl _ _).alloc (Nat.le_refl _) o))
theorem Kp.put {G : Nat} {a b : World} (h : Kp G a b) (j : Nat) (u : Value) : Kp G a (b.setCell ⟨G, j, none⟩ u) :=
  h.trans ⟨rfl, rfl, rfl, by simp [World.setCell], fun k _ hk => Below.heap_setCell _ _ _ _ hk⟩
theorem Kp.grown {G : Nat} {a b c : World} {row : Option Nat} (h : Kp G a b) (hg : b.grownBy c row) (hr : ∀ k, row = some k → a.heap.size ≤ k) : Kp G a c :=
  ⟨hg.os.trans h.os, hg.tape.trans h.tape, hg.output.trans h.output, Nat.le_trans h.size hg.size, fun k hk hk' => (hg.block k (Nat.lt_of_lt_of_le hk h.size) (fun e => by have := hr k e.symm; omega)).trans (h.block k hk hk')⟩
theorem Kp.below {G b : Nat} {a c : World} (h : Kp G a c) (hb : b ≤ a.heap.size) (hG : b ≤ G) : Below b a c := ⟨h.os, h.tape, h.output, h.size, fun k hk => h.block k (by omega) (by omega)⟩
theorem box_put {W : World} {G j : Nat} {u : Array Value} {t : TypeId} {x : Value} (h : W.heap[G]? = some (.cells u t (0, 0))) : (W.setCell ⟨G, j, none⟩ x).heap[G]? = some (.cells (u.setIfInBounds j x) t (0, 0)) := by
  simp [World.setCell, Array.getElem?_modify, h]
theorem box_cell {W : World} {G j : Nat} {u : Array Value} {t : TypeId} {x : Value} (h : W.heap[G]? = some (.cells u t (0, 0))) (hx : u[j]? = some x) : W.cell? ⟨G, j, none⟩ = some x := by
  unfold World.cell?
  rw [h]
  exact hx
theorem box_free {W : World} {G : Nat} {u : Array Value} {t : TypeId} (h : W.heap[G]? = some (.cells u t (0, 0))) (j : Nat) : W.frozen? ⟨G, j, none⟩ = false := by
  unfold World.frozen?; rw [h]; simp
theorem own_type {w : World} {base : Nat} {e : TypeId} {size n : Nat} {v : Value} {xs : List Value} (h : w.ownsRow base e size v n xs) {k : Nat} (hk : v.ownBlock = some k) : ∃ cur, w.heap[k]? = some (.cells cur e (0, 0)) := by
  rcases h.2 with ⟨rfl, -⟩ | ⟨g, cap, cur, rfl, hb, hg, hn, hm, hs, ht⟩
  · cases hk
  · obtain rfl : g = k := by simpa [Value.ownBlock] using hk
    exact ⟨cur, hg⟩
theorem own_lt' {w : World} {base : Nat} {e : TypeId} {size : Nat} {v : Value} {n : Nat} {xs : List Value} (h : w.ownsRow base e size v n xs) {g : Nat} (hg : v.ownBlock = some g) : base ≤ g ∧ g < w.heap.size := by
  refine ⟨own_ge h g hg, ?_⟩
  obtain ⟨cur, hc⟩ := own_type h hg
  exact (Array.getElem?_eq_some_iff.1 hc).1
theorem own_keep' {w w' : World} {base : Nat} {e : TypeId} {size : Nat} {v : Value} {n : Nat} {xs : List Value} (h : w.ownsRow base e size v n xs) (hk : ∀ g, v.ownBlock = some g → w'.heap[g]? = w.heap[g]?) : w'.ownsRow base e size v n xs := by
  obtain ⟨h1, h2⟩ := h
  refine ⟨h1, ?_⟩
  rcases h2 with h2 | ⟨g, cap, cur, e, hg, hh, r⟩
  · exact .inl h2
  · exact .inr ⟨g, cap, cur, e, hg, (hk g (by rw [e]; rfl)).trans hh, r⟩
theorem Row3.kp {G b : Nat} {W W' : World} {y : Sl} {L : List Int} (h : Row3 W b y L) (k : Kp G W W') (hG : G < b) : Row3 W' b y L :=
  own_keep' h fun g hg => by have := own_lt' h hg; exact k.block g this.2 (by omega)
theorem Row3.base {b b' : Nat} {W : World} {y : Sl} {L : List Int} (h : Row3 W b y L) (hb : b' ≤ b) : Row3 W b' y L := own_base h hb

/-- Rows of one's own. -/
def RowsP (W : World) (b : Nat) (y : Sl) (R : List (List Int)) : Prop :=
  ∃ xs : List Sl, xs.length = R.length ∧ W.ownsRow b 30 1 (.slice y.A y.n y.c) R.length (xs.map fun x => Value.slice x.A x.n x.c) ∧ ∀ (k : Nat) (x : Sl) (r : List Int), xs[k]? = some x → R[k]? = some r → Row3 W b x r
theorem RowsP.nil (W : World) (b : Nat) : RowsP W b ⟨none, 0, 0⟩ [] := ⟨[], rfl, World.ownsRow_nil _ _ _ _, fun k x r h => by cases h⟩
theorem RowsP.kp {G b : Nat} {W W' : World} {y : Sl} {R : List (List Int)} (h : RowsP W b y R) (k : Kp G W W') (hG : G < b) : RowsP W' b y R := by
  obtain ⟨xs, hl, hO, hR⟩ := h
  exact ⟨xs, hl, own_keep' hO fun g hg => by have := own_lt' hO hg; exact k.block g this.2 (by omega), fun i x r h1 h2 => (hR i x r h1 h2).kp k hG⟩

/-- The rows of a constraint that is being made. -/
structure MkR (q : Nat) (W : World) (v : ConV) (l : ConL) : Prop where
  a : Row3 W q v.a l.A
  b : Row3 W q v.b l.B
  c : Row3 W q v.c l.C
  d : Row3 W q v.d l.D
  e : Row3 W q v.e l.E
  r : RowsP W q v.r l.rows
theorem MkR.kp {G b : Nat} {W W' : World} {v : ConV} {c : ConL} (h : MkR b W v c) (k : Kp G W W') (hG : G < b) : MkR b W' v c :=
  ⟨h.a.kp k hG, h.b.kp k hG, h.c.kp k hG, h.d.kp k hG, h.e.kp k hG, h.r.kp k hG⟩
def noV : ConV := ⟨⟨none, 0, 0⟩, ⟨none, 0, 0⟩, ⟨none, 0, 0⟩, ⟨none, 0, 0⟩, ⟨none, 0, 0⟩, ⟨none, 0, 0⟩⟩
abbrev bareC (kd : Int) : ConL := ⟨kd, [], [], [], [], [], 0, []⟩
theorem MkR.none (q : Nat) (W : World) (kd : Int) : MkR q W noV (bareC kd) := ⟨Row3.nil _ _, Row3.nil _ _, Row3.nil _ _, Row3.nil _ _, Row3.nil _ _, RowsP.nil _ _⟩

/-- The boxes: what comes in, what is handed back, what is being made. -/
structure MkB (w : World) (z o u : Array Value) (W : World) : Prop where
  low : Below w.heap.size w W
  zb : W.heap[w.heap.size]? = some (.cells z 26 (0, 0))
  ob : W.heap[w.heap.size + 1]? = some (.cells o 32 (0, 0))
  cb : W.heap[w.heap.size + 1 + 1]? = some (.cells u 32 (0, 0))
theorem MkB.size {w : World} {z o u : Array Value} {W : World} (h : MkB w z o u W) : w.heap.size + 1 + 1 + 1 ≤ W.heap.size := (Array.getElem?_eq_some_iff.1 h.cb).1
theorem MkB.kp {w : World} {z o u u' : Array Value} {W W' : World} (h : MkB w z o u W) (k : Kp (w.heap.size + 1 + 1) W W') (hb : W'.heap[w.heap.size + 1 + 1]? = some (.cells u' 32 (0, 0))) : MkB w z o u' W' := by
  have hs := h.size
  exact ⟨h.low.trans (k.below (by omega) (by omega)), (k.block _ (by omega) (by omega)).trans h.zb, (k.block _ (by omega) (by omega)).trans h.ob, hb⟩
theorem MkB.below {w : World} {z o u : Array Value} {W W' : World} (h : MkB w z o u W) (k : Below W.heap.size W W') : MkB w z o u W' :=
  h.kp (Kp.of_below k) ((k.block _ (by have := h.size; omega)).trans h.cb)
/-- What is being made. -/
structure Mk (w : World) (z o : Array Value) (W : World) (v : ConV) (c : ConL) : Prop where
  box : MkB w z o (v.cells c.kind c.K) W
  rows : MkR (w.heap.size + 1 + 1 + 1) W v c
theorem Mk.below {w : World} {z o : Array Value} {W W' : World} {v : ConV} {c : ConL} (h : Mk w z o W v c) (k : Below W.heap.size W W') : Mk w z o W' v c :=
  ⟨h.box.below k, h.rows.kp (Kp.of_below (G := w.heap.size) k) (by omega)⟩
theorem Mk.put {w : World} {z o : Array Value} {W : World} {v v' : ConV} {c c' : ConL} (h : Mk w z o W v c) (j : Nat) (x : Value) (he : (v.cells c.kind c.K).setIfInBounds j x = v'.cells c'.kind c'.K) (hr : MkR (w.heap.size + 1 + 1 + 1) W v' c') :
    Mk w z o (W.setCell ⟨w.heap.size + 1 + 1, j, none⟩ x) v' c' :=
  ⟨h.box.kp ((Kp.refl _ _).put j x) (by rw [← he]; exact box_put h.box.cb), hr.kp ((Kp.refl (w.heap.size + 1 + 1) W).put j x) (by omega)⟩
section
variable {w : World} {z o : Array Value} {W : World} {v : ConV} {c : ConL}
theorem Mk.setA (h : Mk w z o W v c) {x : Sl} {l : List Int} (hx : Row3 W (w.heap.size + 1 + 1 + 1) x l) : Mk w z o (W.setCell ⟨w.heap.size + 1 + 1, 1, none⟩ (.slice x.A x.n x.c)) { v with a := x } { c with A := l } :=
  h.put 1 _ rfl ⟨hx, h.rows.b, h.rows.c, h.rows.d, h.rows.e, h.rows.r⟩
theorem Mk.setB (h : Mk w z o W v c) {x : Sl} {l : List Int} (hx : Row3 W (w.heap.size + 1 + 1 + 1) x l) : Mk w z o (W.setCell ⟨w.heap.size + 1 + 1, 2, none⟩ (.slice x.A x.n x.c)) { v with b := x } { c with B := l } :=
  h.put 2 _ rfl ⟨h.rows.a, hx, h.rows.c, h.rows.d, h.rows.e, h.rows.r⟩
theorem Mk.setC (h : Mk w z o W v c) {x : Sl} {l : List Int} (hx : Row3 W (w.heap.size + 1 + 1 + 1) x l) : Mk w z o (W.setCell ⟨w.heap.size + 1 + 1, 3, none⟩ (.slice x.A x.n x.c)) { v with c := x } { c with C := l } :=
  h.put 3 _ rfl ⟨h.rows.a, h.rows.b, hx, h.rows.d, h.rows.e, h.rows.r⟩
theorem Mk.setD (h : Mk w z o W v c) {x : Sl} {l : List Int} (hx : Row3 W (w.heap.size + 1 + 1 + 1) x l) : Mk w z o (W.setCell ⟨w.heap.size + 1 + 1, 4, none⟩ (.slice x.A x.n x.c)) { v with d := x } { c with D := l } :=
  h.put 4 _ rfl ⟨h.rows.a, h.rows.b, h.rows.c, hx, h.rows.e, h.rows.r⟩
theorem Mk.setE (h : Mk w z o W v c) {x : Sl} {l : List Int} (hx : Row3 W (w.heap.size + 1 + 1 + 1) x l) : Mk w z o (W.setCell ⟨w.heap.size + 1 + 1, 5, none⟩ (.slice x.A x.n x.c)) { v with e := x } { c with E := l } :=
  h.put 5 _ rfl ⟨h.rows.a, h.rows.b, h.rows.c, h.rows.d, hx, h.rows.r⟩
theorem Mk.setK (h : Mk w z o W v c) (k : Int) : Mk w z o (W.setCell ⟨w.heap.size + 1 + 1, 6, none⟩ (.int .i64 k)) v { c with K := k } :=
  h.put 6 _ rfl ⟨h.rows.a, h.rows.b, h.rows.c, h.rows.d, h.rows.e, h.rows.r⟩
theorem Mk.setR (h : Mk w z o W v c) {x : Sl} {l : List (List Int)} (hx : RowsP W (w.heap.size + 1 + 1 + 1) x l) : Mk w z o (W.setCell ⟨w.heap.size + 1 + 1, 7, none⟩ (.slice x.A x.n x.c)) { v with r := x } { c with rows := l } :=
  h.put 7 _ rfl ⟨h.rows.a, h.rows.b, h.rows.c, h.rows.d, h.rows.e, hx⟩
theorem Mk.cells (h : Mk w z o W v c) (j : Nat) {x : Value} (hx : (v.cells c.kind c.K)[j]? = some x) : W.cell? ⟨w.heap.size + 1 + 1, j, none⟩ = some x := box_cell h.box.cb hx
theorem Mk.free (h : Mk w z o W v c) (j : Nat) : W.frozen? ⟨w.heap.size + 1 + 1, j, none⟩ = false := box_free h.box.cb j
theorem Mk.zcell (h : Mk w z o W v c) (j : Nat) {x : Value} (hx : z[j]? = some x) : W.cell? ⟨w.heap.size, j, none⟩ = some x := box_cell h.box.zb hx
theorem Mk.ocell (h : Mk w z o W v c) (j : Nat) {x : Value} (hx : o[j]? = some x) : W.cell? ⟨w.heap.size + 1, j, none⟩ = some x := box_cell h.box.ob hx
theorem Mk.ofree (h : Mk w z o W v c) (j : Nat) : W.frozen? ⟨w.heap.size + 1, j, none⟩ = false := box_free h.box.ob j
theorem Mk.size (h : Mk w z o W v c) : w.heap.size + 1 + 1 + 1 ≤ W.heap.size := h.box.size
end
/-- What was made lies in memory. -/
theorem MkR.con {b : Nat} {W : World} {v : ConV} {c : ConL} (h : MkR b W v c) (ha : c.A.length ≤ 1000000) (hb : c.B.length ≤ 1000000) (hc : c.C.length ≤ 1000000) (hd : c.D.length ≤ 1000000) (he : c.E.length ≤ 1000000) (hr : c.rows.length ≤ 1000000) (hrr : ∀ r ∈ c.rows, r.length ≤ 1000000) : ConIn W v c := by
  have I3 : ∀ {y : Sl} {zs : List Int}, Row3 W b y zs → zs.length ≤ 1000000 → IsInts W y zs := fun {y zs} h hs => by
    obtain ⟨A, n, k⟩ := y
    obtain ⟨A', c', e, hL, hc⟩ := own_lies h
    simp only [Value.slice.injEq] at e
    obtain ⟨rfl, rfl, rfl⟩ := e
    exact ⟨rfl, hL, by simp only; omega, hc⟩
  refine ⟨I3 h.a ha, I3 h.b hb, I3 h.c hc, I3 h.d hd, I3 h.e he, ?_⟩
  obtain ⟨xs, hl, hO, hR⟩ := h.r
  obtain ⟨⟨A, n, k⟩, hy⟩ : ∃ y, v.r = y := ⟨_, rfl⟩
  rw [hy] at hO ⊢
  simp only at hO
  obtain ⟨A', c', e⟩ := slice_row hO
  simp only [Value.slice.injEq] at e
  obtain ⟨rfl, rfl, rfl⟩ := e
  refine ⟨rfl, by simp only; omega, fun h0 => ?_⟩
  simp only at h0 ⊢
  rcases hO.2 with ⟨e, h2⟩ | ⟨g, cap, cur, e, hb, hg, hn, hm, hs, ht⟩
  · omega
  · simp only [Value.slice.injEq] at e
    obtain ⟨rfl, -, rfl⟩ := e
    refine ⟨_, rfl, (Array.getElem?_eq_some_iff.1 hg).1, fun i hi => ?_⟩
    have hi : i < c.rows.length := hi
    have hix : i < xs.length := by omega
    refine ⟨xs[i], ?_, ?_⟩
    · have := hO.cellAt i (by omega)
      rw [Addr.add_mid, Nat.zero_add, this, List.getElem?_map, List.getElem?_eq_getElem hix]
      rfl
    · have h1 := hR i xs[i] c.rows[i] (List.getElem?_eq_getElem hix) (List.getElem?_eq_getElem hi)
      rw [List.getD_eq_getElem?_getD, List.getElem?_eq_getElem hi]
      exact I3 h1 (hrr _ (List.getElem_mem hi))
end Go.Proofs.YtkhmocbfkpbpfaaGreatDoor
