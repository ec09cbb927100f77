/- Contracts: valuesOf, Compare, needed; the closures of meets. -/
import Derived.Test.YtkhmocbfkpbpfaaGreatDoorGfn3
import Derived.Test.YtkhmocbfkpbpfaaGreatDoorMshapes
import Derived.Test.YtkhmocbfkpbpfaaGreatDoorMkp
namespace Go.Proofs.YtkhmocbfkpbpfaaGreatDoor
open Go.RowKit Go.Sort

/-- A row of numbers that is being filled. -/
def RV (ss : List Int) (n k : Nat) : List Value := (ss.take k).map (Value.int .i64) ++ List.replicate (n - k) (.int .i64 0)
theorem RV_set {ss : List Int} {n k : Nat} (h : k < ss.length) (hn : k < n) : (RV ss n k).set k (.int .i64 (ss.getD k 0)) = RV ss n (k + 1) := by
  unfold RV
  have hl : ((ss.take k).map (Value.int .i64)).length = k := by rw [List.length_map, List.length_take]; omega
  rw [List.set_append_right _ _ (by omega), hl, Nat.sub_self]
  obtain ⟨j, hj⟩ : ∃ j, n - k = j + 1 := ⟨n - k - 1, by omega⟩
  rw [hj, List.replicate_succ, List.set_cons_zero, show n - (k + 1) = j by omega, List.take_add_one, List.getElem?_eq_getElem h, List.map_append, List.append_assoc, List.getD_eq_getElem?_getD, List.getElem?_eq_getElem h]
  rfl
theorem RV_at {ss : List Int} {n k : Nat} (hs : k ≤ ss.length) (hn : k < n) : (RV ss n k)[k]? = some (RV ss n k)[k]?.get! := by
  have : k < (RV ss n k).length := by
    unfold RV
    rw [List.length_append, List.length_replicate, List.length_map, List.length_take]
    rw [Nat.min_eq_left hs]; omega
  rw [List.getElem?_eq_getElem this]
  rfl
theorem RV_full (ss : List Int) : RV ss ss.length ss.length = I ss := by
  unfold RV I
  rw [Nat.sub_self, List.replicate_zero, List.append_nil, List.take_length]
theorem ints_own {w : World} {base : Nat} {y : Sl} {zs : List Int} (h : w.ownsRow base 3 1 (.slice y.A y.n y.c) zs.length (I zs)) (hs : zs.length ≤ 4611686018427387903) : IsInts w y zs := by
  obtain ⟨A, n, c⟩ := y
  obtain ⟨A', c', e, hL, hc⟩ := own_lies h
  simp only [Value.slice.injEq] at e
  obtain ⟨rfl, rfl, rfl⟩ := e
  exact ⟨rfl, hL, hs, hc⟩

set_option maxHeartbeats 1000000 in
theorem values_any (x y : Sl) (L a : List Int) (w : World) (hx : IsInts w x L) (hy : IsInts w y a) (hs : L.length ≤ 64) (hin : ∀ v ∈ L, 0 ≤ v ∧ v < (a.length : Int)) :
    Calls Tryz.prog 163 #[.slice x.A x.n x.c, .slice y.A y.n y.c] w fun e w' => (∃ z : Sl, e = .returned (.slice z.A z.n z.c) ∧ IsInts w' z (valsE L a)) ∧ Below w.heap.size w w' := by
  obtain ⟨A, n, c⟩ := x
  obtain ⟨hn, hL, hbig, hcap⟩ := hx
  obtain ⟨yA, yn, yc⟩ := y
  simp only at hn hL hbig ⊢
  obtain ⟨i0, hi, hz0, hz1, hz2⟩ := info_parts Tryz.info3
  have hmk : (Instr.makeSlice 30 (.int .i64 (n : Nat)) (.int .i64 (n : Nat))).run Tryz.prog w = .ok (.slice (some ⟨w.heap.size, 0, none⟩) n n) (w.alloc (.cells (madeCells #[.int .i64 0] n) 3)) := by
    have := run_make (P := Tryz.prog) w 30 3 i0 (.int .i64 0) Tryz.underlying30 hi hz0 .i64 .i64 (n : Nat) (n : Nat) (by omega) (by omega) (by rw [hz2]; omega) (by omega)
    rw [this, hz1]
    simp [Value.cells]
  have hrow : (w.alloc (.cells (madeCells #[.int .i64 0] n) 3)).ownsRow w.heap.size 3 1 (.slice (some ⟨w.heap.size, 0, none⟩) n n) n (RV (valsE L a) n 0) := by
    have := World.ownsRow_lit (base := w.heap.size) (e := 3) (size := 1) w (madeCells #[Value.int .i64 0] n) n (Nat.le_refl _) (by unfold maxLen; omega) (by simp [madeCells])
    rw [toList_madeCells_one] at this
    simpa [RV] using this
  have HR := Lib.hid hrow
  have HL := Lib.hid hL
  have Hn := Lib.hid hn.symm
  have HY := Lib.hid hy
  have HI := Lib.hid hin
  have hn6 : n ≤ 64 := by omega
  clear hL hn hs hi hz0 hz1 hz2 hrow hy hin
  go_enter Tryz.func163, Tryz.ntmps163
  go_wp2_with fail
  go_loopw [13] (fun i wr => ∃ k : Nat, k ≤ n ∧ i = .int .i64 (k : Nat) ∧ Hid (wr.ownsRow w.heap.size 3 1 (.slice (some ⟨w.heap.size, 0, none⟩) n n) n (RV (valsE L a) n k)) ∧ Hid (Below w.heap.size w wr)) (fun i _ => n - (intOf i).toNat)
  case atStart => exact ⟨0, by omega, rfl, HR, Lib.hid (below1 _ _)⟩
  case round =>
    obtain ⟨k, hk, rfl, HO, HB⟩ := hrel
    by_cases hlt : k < n
    · obtain ⟨ad, rfl, hbk, hcl⟩ := HL.out (by omega)
      have hck : wr.cell? (ad.add k) = some (.int .i64 (L.getD k 0)) := (HB.out.cell (by rw [add_block]; exact hbk)).trans (hcl k hlt)
      have hLk : k < L.length := by rw [Hn.out]; exact hlt
      have hv := HI.out _ (getD_mem L k hLk)
      have hvl : k < (valsE L a).length := by unfold valsE; rw [List.length_map]; exact hLk
      have HK : Hid (k ≤ (valsE L a).length) := Lib.hid (Nat.le_of_lt hvl)
      have HS := Lib.hid (RV_set (ss := valsE L a) (n := n) (k := k) hvl hlt)
      have hfk : (valsE L a).getD k 0 = atE a (L.getD k 0) := by
        unfold valsE
        rw [List.getD_eq_getElem?_getD, List.getElem?_map, List.getD_eq_getElem?_getD, List.getElem?_eq_getElem hLk]
        rfl
      rw [hfk] at HS
      obtain ⟨m, hm⟩ : ∃ m : Nat, L.getD k 0 = (m : Int) := ⟨(L.getD k 0).toNat, by omega⟩
      rw [hm] at hck HS hv
      obtain ⟨yl, yL, ybig, ycap⟩ := HY.out
      simp only at yl yL ybig ycap
      have hmy : m < yn := by omega
      obtain ⟨bd, rfl, hbb, hbl⟩ := yL (by omega)
      have hcb : wr.cell? (bd.add m) = some (.int .i64 (atE a (m : Int))) := (HB.out.cell (by rw [add_block]; exact hbb)).trans (hbl m hmy)
      generalize atE a (m : Int) = z at hcb HS
      have cw := HO.out.cellAt k (by omega)
      rw [RV_at (ss := valsE L a) (n := n) (k := k) HK.out hlt] at cw
      have fw := HO.out.frozenAt k
      have hst := (HO.out.stored k (.int .i64 z)).1
      rw [HS.out] at hst
      have HO2 := Lib.hid hst
      clear hst hcl hbk hfk hvl hLk hm hv yl yL ycap hbl hbb HO HS
      go_wp2_with fail
      go_roundw
      case rel => exact ⟨k + 1, by omega, by go_num, HO2, Lib.hid (HB.out.setCell (p := ⟨w.heap.size, k, none⟩) (Nat.le_refl _) _)⟩
      case measure => simp [intOf]; omega
    · have hl : (valsE L a).length = n := by unfold valsE; rw [List.length_map, Hn.out]
      have HF : Hid (IsInts wr ⟨some ⟨w.heap.size, 0, none⟩, n, n⟩ (valsE L a)) := Lib.hid (by
        have h0 := HO.out
        rw [show k = n by omega] at h0
        have h1 : RV (valsE L a) n n = I (valsE L a) := by
          have := RV_full (valsE L a)
          rwa [hl] at this
        rw [h1] at h0
        refine ints_own (y := ⟨some ⟨w.heap.size, 0, none⟩, n, n⟩) (base := w.heap.size) ?_ (by omega)
        rw [hl]
        exact h0)
      clear HO
      go_wp2_with fail
      go_ret
      exact ⟨⟨⟨some ⟨w.heap.size, 0, none⟩, n, n⟩, rfl, HF.out⟩, HB.out⟩

def cmpE (a b : Int) : Int := if a < b then -1 else if b < a then 1 else 0
theorem isNaN_any (a : Int) (w : World) : Calls Tryz.prog 198 #[.int .i64 a] w fun e w' => e = .returned (.bool false) ∧ w = w' := by
  go_enter Tryz.func198, Tryz.ntmps198
  go_wp2_with fail
  go_ret
  exact ⟨ret_bool (by simp), rfl⟩
theorem cmp_any (a b : Int) (w : World) : Calls Tryz.prog 243 #[.int .i64 a, .int .i64 b] w fun e w' => e = .returned (.int .i64 (cmpE a b)) ∧ w = w' := by
  have C1 := Lib.hid (isNaN_any a w)
  have C2 := Lib.hid (isNaN_any b w)
  unfold cmpE
  by_cases h1 : a < b
  · have e1 : decide (a < b) = true := by simpa using h1
    rw [if_pos h1]
    clear h1
    go_enter Tryz.func243, Tryz.ntmps243
    go_wp2_with fail
    refine C1.out.mono ?_
    rintro e w1 ⟨rfl, rfl⟩
    go_wp2_with fail
    refine C2.out.mono ?_
    rintro e w1 ⟨rfl, rfl⟩
    go_wp2_with fail
    go_ret
    exact ⟨rfl, rfl⟩
  · have e1 : decide (a < b) = false := by simpa using h1
    rw [if_neg h1]
    clear h1
    by_cases h2 : b < a
    · have e2 : decide (b < a) = true := by simpa using h2
      rw [if_pos h2]
      clear h2
      go_enter Tryz.func243, Tryz.ntmps243
      go_wp2_with fail
      refine C1.out.mono ?_
      rintro e w1 ⟨rfl, rfl⟩
      go_wp2_with fail
      refine C2.out.mono ?_
      rintro e w1 ⟨rfl, rfl⟩
      go_wp2_with fail
      go_ret
      exact ⟨rfl, rfl⟩
    · have e2 : decide (b < a) = false := by simpa using h2
      rw [if_neg h2]
      clear h2
      go_enter Tryz.func243, Tryz.ntmps243
      go_wp2_with fail
      refine C1.out.mono ?_
      rintro e w1 ⟨rfl, rfl⟩
      go_wp2_with fail
      refine C2.out.mono ?_
      rintro e w1 ⟨rfl, rfl⟩
      go_wp2_with fail
      go_ret
      exact ⟨rfl, rfl⟩

/-- What Compare tells of two lists. -/
def compE : List Int → List Int → Int
  | [], [] => 0
  | [], _ :: _ => -1
  | _ :: _, [] => 1
  | a :: s, b :: t => if cmpE a b != 0 then cmpE a b else compE s t
theorem comp_lex (x y : List Int) : decide (compE x y ≤ 0) = lexB x y := by
  induction x generalizing y with
  | nil => cases y <;> simp [compE, lexB]
  | cons a s ih =>
    cases y with
    | nil => simp [compE, lexB]
    | cons b t =>
      unfold compE lexB cmpE
      by_cases h1 : a < b
      · simp [h1]
      · by_cases h2 : b < a
        · simp [h1, h2]
        · simp only [h1, h2, if_false]
          simpa using ih t
theorem drop_at {L : List Int} {k : Nat} (h : k < L.length) : L.drop k = L.getD k 0 :: L.drop (k + 1) := by
  rw [List.drop_eq_getElem_cons h, List.getD_eq_getElem?_getD, List.getElem?_eq_getElem h]
  rfl

set_option maxHeartbeats 1000000 in
theorem compare_any (x y : Sl) (X Y : List Int) (w : World) (hx : IsInts w x X) (hy : IsInts w y Y) (hl : X.length = Y.length) :
    Calls Tryz.prog 212 #[.slice x.A x.n x.c, .slice y.A y.n y.c] w fun e w' => e = .returned (.int .i64 (compE X Y)) ∧ w = w' := by
  obtain ⟨A, n, c⟩ := x
  obtain ⟨hn, hL, hbig, hcap⟩ := hx
  obtain ⟨A', n', c'⟩ := y
  obtain ⟨hn', hL', hbig', hcap'⟩ := hy
  simp only at hn hL hbig hn' hL' ⊢
  obtain rfl : n' = n := by omega
  have HL := Lib.hid hL
  have HL' := Lib.hid hL'
  have HX := Lib.hid hn
  have HY := Lib.hid hn'
  have HE : Hid (compE X Y = compE (X.drop 0) (Y.drop 0)) := Lib.hid rfl
  generalize compE X Y = D at HE ⊢
  clear hL hL' hn hn' hl hcap hcap'
  go_enter Tryz.func212, Tryz.ntmps212
  go_wp2_with fail
  go_loopw [11] (fun i wr => ∃ (k : Nat), i = .int .i64 (k : Nat) ∧ k ≤ n' ∧ Hid (D = compE (X.drop k) (Y.drop k)) ∧ Hid (w = wr)) (fun i _ => n' - (intOf i).toNat)
  case atStart => exact ⟨0, rfl, by omega, HE, Lib.hid rfl⟩
  case round =>
    obtain ⟨k, rfl, hk, HT, HB⟩ := hrel
    by_cases hlt : k < n'
    · obtain ⟨ad, rfl, hbk, hcl⟩ := HL.out (by omega)
      obtain ⟨ad', rfl, hbk', hcl'⟩ := HL'.out (by omega)
      have hck : wr.cell? (ad.add k) = some (.int .i64 (X.getD k 0)) := by rw [← HB.out]; exact hcl k hlt
      have hck' : wr.cell? (ad'.add k) = some (.int .i64 (Y.getD k 0)) := by rw [← HB.out]; exact hcl' k hlt
      have HT2 : Hid (D = if cmpE (X.getD k 0) (Y.getD k 0) != 0 then cmpE (X.getD k 0) (Y.getD k 0) else compE (X.drop (k + 1)) (Y.drop (k + 1))) := Lib.hid (by rw [HT.out, drop_at (L := X) (k := k) (by rw [← HX.out]; exact hlt), drop_at (L := Y) (k := k) (by rw [← HY.out]; exact hlt), compE])
      have CC := Lib.hid (cmp_any (X.getD k 0) (Y.getD k 0) wr)
      clear hcl hbk hcl' hbk' HT
      generalize X.getD k 0 = a at *
      generalize Y.getD k 0 = b at *
      generalize cmpE a b = r at CC HT2
      cases hr : (r != 0)
      · have HT3 : Hid (D = compE (X.drop (k + 1)) (Y.drop (k + 1))) := Lib.hid (by rw [HT2.out, hr]; simp)
        clear HT2
        go_wp2_with fail
        refine CC.out.mono ?_
        rintro e w1 ⟨rfl, rfl⟩
        go_wp2_with fail
        go_roundw
        case rel => exact ⟨k + 1, by go_num, by omega, HT3, HB⟩
        case measure => simp [intOf]; omega
      · have HT3 : Hid (D = r) := Lib.hid (by rw [HT2.out, hr]; simp)
        clear HT2
        go_wp2_with fail
        refine CC.out.mono ?_
        rintro e w1 ⟨rfl, rfl⟩
        go_wp2_with fail
        go_ret
        exact ⟨by rw [HT3.out]; rfl, HB.out⟩
    · have HT2 : Hid (D = 0) := Lib.hid (by rw [HT.out, List.drop_of_length_le (by have := HX.out; omega), List.drop_of_length_le (by have := HY.out; omega)]; rfl)
      clear HT HE
      go_wp2_with fail
      go_ret
      exact ⟨by rw [HT2.out]; rfl, HB.out⟩
end Go.Proofs.YtkhmocbfkpbpfaaGreatDoor

/- Contracts: needed; the closures of meets. -/
namespace Go.Proofs.YtkhmocbfkpbpfaaGreatDoor
open Go.RowKit Go.Sort

theorem in_regrown' {f : Nat} {args : Array Value} {w : World} {z : Int} (h : ∀ W, Below w.heap.size w W → Calls Tryz.prog f args W fun e w' => e = .returned (.int .i64 z) ∧ Below W.heap.size W w') : ∀ d os, Calls Tryz.prog f args (grow (redrawn w d) os) fun e w'' => e = .returned (.int .i64 z) ∧ ∃ p : Regrown, w'' = grow (redrawn w p.d) p.os := fun d os => Calls.regrown_of (h _ (below_regrown _ d os))
set_option maxHeartbeats 2000000 in
set_option maxRecDepth 100000 in
theorem needed_any (v : ConV) (c : ConL) (x : Sl) (X : List Int) (t : Int) (w : World) (hc : IsInts w v.c c.C) (hd : IsInts w v.d c.D) (hx : IsInts w x X) (h64 : X.length ≤ 64) (lC : c.C.length = X.length) (lD : c.D.length = X.length)
    (bC : ∀ v ∈ c.C, -1000000 ≤ v ∧ v ≤ 1000000) (bD : ∀ v ∈ c.D, -1000000 ≤ v ∧ v ≤ 1000000) (bX : ∀ v ∈ X, -1000000 ≤ v ∧ v ≤ 1000000) :
    Calls Tryz.prog 208 #[v.val c.kind c.K, .slice x.A x.n x.c, .int .i64 t] w fun e w' => e = .returned (.int .i64 (needE c X t)) ∧ Below w.heap.size w w' := by
  have hnx := hx.len
  have hnc := hc.len
  have hnd := hd.len
  obtain ⟨n, hn⟩ : ∃ n, n = x.n := ⟨_, rfl⟩
  have HX := Lib.hid hx
  have HC := Lib.hid hc
  have HD := Lib.hid hd
  have BX := Lib.hid bX
  have BC := Lib.hid bC
  have BD := Lib.hid bD
  have n64 : n ≤ 64 := by omega
  have HE : Hid (needE c X t = sumN (needF c X t) n) := Lib.hid (by unfold needE; rw [hn, hnx])
  have HF : Hid (∀ i, needF c X t i = if decide (X.getD i 0 ≤ t) && decide (t < X.getD i 0 + c.C.getD i 0) then c.D.getD i 0 else 0) := Lib.hid (fun i => rfl)
  have HA : Hid (∀ i, -1000000 ≤ needF c X t i ∧ needF c X t i ≤ 1000000) := Lib.hid (fun i => by
    unfold needF
    split
    · exact getD_in bD (by omega) i
    · omega)
  generalize needE c X t = RES at HE ⊢
  generalize needF c X t = f at *
  generalize c.kind = kd at *
  generalize c.K = kk at *
  obtain ⟨va, vb, ⟨cA, cn, cc⟩, ⟨dA, dn, dc⟩, ve, vr⟩ := v
  obtain ⟨xA, xn, xc⟩ := x
  simp only at hn hnx hnc hnd HX HC HD
  obtain rfl : n = xn := hn
  obtain rfl : cn = n := by omega
  obtain rfl : dn = cn := by omega
  clear hc hd hx bX bC bD hnx hnc hnd lC lD h64
  go_enter Tryz.func208, Tryz.ntmps208
  go_wp2_with fail
  go_loopw [7, 12] (fun s i wr => ∃ (k : Nat) (u : Int), s = .int .i64 u ∧ i = .int .i64 (k : Nat) ∧ k ≤ dn ∧ Hid (u = sumN f k) ∧ Hid (Below (w.heap.size + 1) (w.alloc (.cells (ConV.cells ⟨va, vb, ⟨cA, dn, cc⟩, ⟨dA, dn, dc⟩, ve, vr⟩ kd kk) 32)) wr)) (fun _ i _ => dn - (intOf i).toNat)
  case atStart => exact ⟨0, 0, rfl, rfl, by omega, Lib.hid rfl, Lib.hid (by rw [show w.heap.size + 1 = (w.alloc (.cells (ConV.cells ⟨va, vb, ⟨cA, dn, cc⟩, ⟨dA, dn, dc⟩, ve, vr⟩ kd kk) 32)).heap.size by simp]; exact Below.refl _ _)⟩
  case round =>
    obtain ⟨k, u, rfl, rfl, hk, HT, HB⟩ := hrel
    by_cases hlt : k < dn
    · have hbw := of_boxed HB.out
      obtain ⟨adC, eC, hbC, hclC⟩ := (HC.out.below hbw).lies (by simp only; omega)
      obtain ⟨adD, eD, hbD, hclD⟩ := (HD.out.below hbw).lies (by simp only; omega)
      obtain ⟨adX, eX, hbX, hclX⟩ := (HX.out.below hbw).lies (by simp only; omega)
      simp only at eC eD eX
      subst eC eD eX
      obtain ⟨c0, c1, c2, c3, c4, c5, c6, c7⟩ := box8 HB.out
      have hC : wr.cell? (adC.add k) = some (.int .i64 (c.C.getD k 0)) := hclC k hlt
      have hD : wr.cell? (adD.add k) = some (.int .i64 (c.D.getD k 0)) := hclD k hlt
      have hX : wr.cell? (adX.add k) = some (.int .i64 (X.getD k 0)) := hclX k hlt
      have b1 := getD_in BX.out (by omega) k
      have b2 := getD_in BC.out (by omega) k
      have b3 := getD_in BD.out (by omega) k
      have hs := sumN_abs (f := f) (n := k) (b := 1000000) (fun i _ => HA.out i)
      rw [← HT.out] at hs
      have HN : Hid (u + f k = sumN f (k + 1)) := Lib.hid (by rw [HT.out]; rfl)
      rw [HF.out k] at HN
      clear hclC hclD hclX hbC hbD hbX hbw HT
      generalize c.C.getD k 0 = zc at *
      generalize c.D.getD k 0 = zd at *
      generalize X.getD k 0 = zx at *
      have w1 : IntKind.i64.wrap (zx + zc) = zx + zc := IntWalk.i64_in _ (by omega)
      have w2 : IntKind.i64.wrap (u + zd) = u + zd := IntWalk.i64_in _ (by omega)
      clear b1 b2 b3 hs
      cases e1 : decide (zx ≤ t)
      · have HN2 : Hid (u = sumN f (k + 1)) := Lib.hid (by have := HN.out; rw [e1] at this; simpa using this)
        clear HN
        go_wp2_with fail
        go_roundw
        case rel => exact ⟨k + 1, _, rfl, by go_num, by omega, HN2, HB⟩
        case measure => simp [intOf]; omega
      · cases e2 : decide (t < zx + zc)
        · have HN2 : Hid (u = sumN f (k + 1)) := Lib.hid (by have := HN.out; rw [e1, e2] at this; simpa using this)
          clear HN
          go_wp2_with fail
          go_roundw
          case rel => exact ⟨k + 1, _, rfl, by go_num, by omega, HN2, HB⟩
          case measure => simp [intOf]; omega
        · have HN2 : Hid (u + zd = sumN f (k + 1)) := Lib.hid (by have := HN.out; rw [e1, e2] at this; simpa using this)
          clear HN
          go_wp2_with fail
          go_roundw
          case rel => exact ⟨k + 1, _, rfl, by go_num, by omega, HN2, HB⟩
          case measure => simp [intOf]; omega
    · have HT2 : Hid (u = RES) := Lib.hid (by rw [HE.out, HT.out, show k = dn by omega])
      clear HT HE
      go_wp2_with fail
      go_ret
      exact ⟨by rw [← HT2.out]; rfl, of_boxed HB.out⟩

/-- A boxed slice. -/
theorem eMeets1 : ∀ args w, (callFunc 204 args).run Tryz.prog w = .ok (.enter 204 args) w := enters_of Tryz.func204 (by kernel_rfl) rfl
theorem eMeets2 : ∀ args w, (callFunc 206 args).run Tryz.prog w = .ok (.enter 206 args) w := enters_of Tryz.func206 (by kernel_rfl) rfl
theorem eMeets3 : ∀ args w, (callFunc 207 args).run Tryz.prog w = .ok (.enter 207 args) w := enters_of Tryz.func207 (by kernel_rfl) rfl
theorem eMeets4 : ∀ args w, (callFunc 210 args).run Tryz.prog w = .ok (.enter 210 args) w := enters_of Tryz.func210 (by kernel_rfl) rfl
theorem eMeets5 : ∀ args w, (callFunc 213 args).run Tryz.prog w = .ok (.enter 213 args) w := enters_of Tryz.func213 (by kernel_rfl) rfl

set_option maxRecDepth 100000 in
theorem meets1_any (x : Sl) (X : List Int) (i : Nat) (a : Addr) (w : World) (hi : i < X.length) (ha : w.cell? a = some (.slice x.A x.n x.c)) (h : IsInts w x X) :
    Calls Tryz.prog 204 (#[.int .i64 (i : Nat)] ++ #[.pointer (some a)]) w fun e w' => e = .returned (.bool (diffP X i)) ∧ Below w.heap.size w w' := by
  show Calls Tryz.prog 204 #[.int .i64 (i : Nat), .pointer (some a)] w _
  have hin : i < x.n := by rw [h.len]; exact hi
  have CK := Lib.hid (bo_regrown (w := w) (fun W hW => (contains_ints ⟨x.A, i, x.c⟩ (X.take i) (X.getD i 0) W ((h.below hW).take (by omega))).mono fun _ _ q => ⟨q.1, q.2 ▸ Below.refl _ _⟩))
  have za := cell_regrown ha
  unfold diffP
  obtain ⟨A, n, c⟩ := x
  obtain ⟨hn, hL, hbig, hcap⟩ := h
  simp only at hn hL hbig hin hcap CK za
  obtain ⟨ad, rfl, hbk, hcl⟩ := hL (by omega)
  have hck : ∀ d os, (grow (redrawn w d) os).cell? (ad.add i) = some (.int .i64 (X.getD i 0)) := cell_regrown (hcl i hin)
  generalize X.getD i 0 = z at hck CK ⊢
  generalize (X.take i).any (· == z) = T at CK ⊢
  have hix : ((i : Nat) : Int) < ((n : Nat) : Int) := by omega
  clear hcl hL hbk hi ha hn
  go_enter Tryz.func204, Tryz.ntmps204
  go_wp2_with fail
  refine wp_region_quiet_below (by kernel_rfl) (by kernel_rfl) ?_
  repeat (first | go_big_quiet_step (first | (go_at_call 27; with_reducible exact CK.out _ _)) | quiet_step (first | (go_at_call 27; with_reducible exact CK.out _ _)))
  refine wpQuiet_nil ?_
  intro _ hw'
  obtain ⟨⟨dq, osq⟩, hw''⟩ := hw'
  subst hw''
  have B6 := Lib.hid (below_regrown w dq osq)
  generalize grow (redrawn w dq) osq = W6 at *
  clear hck CK za
  go_wp2_with fail
  go_ret
  exact ⟨rfl, B6.out⟩

theorem meets2_any (u x : Sl) (r X : List Int) (a : Addr) (w : World) (ha : w.cell? a = some (.slice x.A x.n x.c)) (hu : IsInts w u r) (h : IsInts w x X) :
    Calls Tryz.prog 206 (#[.slice u.A u.n u.c] ++ #[.pointer (some a)]) w fun e w' => e = .returned (.bool (r == X)) ∧ Below w.heap.size w w' := by
  show Calls Tryz.prog 206 #[.slice u.A u.n u.c, .pointer (some a)] w _
  have C := Lib.hid (gequal_ints u x r X w hu h)
  generalize (r == X) = T at C ⊢
  clear hu h
  go_enter Tryz.func206, Tryz.ntmps206
  go_wp2_with fail
  refine C.out.mono ?_
  rintro e w1 ⟨rfl, b1⟩
  have B1 := Lib.hid b1
  clear b1 C
  go_wp2_with fail
  go_ret
  exact ⟨rfl, B1.out⟩

set_option maxHeartbeats 2000000 in
set_option maxRecDepth 100000 in
theorem meets3_any (v : ConV) (c : ConL) (x : Sl) (X : List Int) (i g : Nat) (a : Addr) (w : World) (hi : i < X.length) (hg : ∀ (j : Nat) (u : Value), (v.cells c.kind c.K)[j]? = some u → w.cell? ⟨g, j, none⟩ = some u) (ha : w.cell? a = some (.slice x.A x.n x.c)) (hc : IsInts w v.c c.C) (hd : IsInts w v.d c.D) (h : IsInts w x X) (h64 : X.length ≤ 64) (lC : c.C.length = X.length) (lD : c.D.length = X.length)
    (bC : ∀ v ∈ c.C, -1000000 ≤ v ∧ v ≤ 1000000) (bD : ∀ v ∈ c.D, -1000000 ≤ v ∧ v ≤ 1000000) (bX : ∀ v ∈ X, -1000000 ≤ v ∧ v ≤ 1000000) :
    Calls Tryz.prog 207 (#[.int .i64 (i : Nat)] ++ #[.pointer (some ⟨g, 0, none⟩), .pointer (some a)]) w fun e w' => e = .returned (.bool (cumP c X i)) ∧ Below w.heap.size w w' := by
  show Calls Tryz.prog 207 #[.int .i64 (i : Nat), .pointer (some ⟨g, 0, none⟩), .pointer (some a)] w _
  have hin : i < x.n := by rw [h.len]; exact hi
  have CK := Lib.hid (in_regrown' (w := w) (fun W hW => needed_any v c x X (X.getD i 0) W (hc.below hW) (hd.below hW) (h.below hW) h64 lC lD bC bD bX))
  have za := cell_regrown ha
  have k0 := cell_regrown (hg 0 _ rfl)
  have k1 := cell_regrown (hg 1 _ rfl)
  have k2 := cell_regrown (hg 2 _ rfl)
  have k3 := cell_regrown (hg 3 _ rfl)
  have k4 := cell_regrown (hg 4 _ rfl)
  have k5 := cell_regrown (hg 5 _ rfl)
  have k6 := cell_regrown (hg 6 _ rfl)
  have k7 := cell_regrown (hg 7 _ rfl)
  unfold cumP
  obtain ⟨A, n, cp⟩ := x
  obtain ⟨hn, hL, hbig, hcap⟩ := h
  simp only at hn hL hbig hin hcap CK za
  obtain ⟨ad, rfl, hbk, hcl⟩ := hL (by omega)
  have hck : ∀ d os, (grow (redrawn w d) os).cell? (ad.add i) = some (.int .i64 (X.getD i 0)) := cell_regrown (hcl i hin)
  generalize X.getD i 0 = z at hck CK ⊢
  generalize needE c X z = T at CK ⊢
  generalize c.kind = kd at *
  generalize c.K = kk at *
  have hix : ((i : Nat) : Int) < ((n : Nat) : Int) := by omega
  clear hcl hL hbk hi ha hg hc hd bC bD bX lC lD h64 hn
  go_enter Tryz.func207, Tryz.ntmps207
  go_wp2_with fail
  refine wp_region_quiet_below (by kernel_rfl) (by kernel_rfl) ?_
  repeat (first | go_big_quiet_step (first | (go_at_call 208; with_reducible exact CK.out _ _)) | quiet_step (first | (go_at_call 208; with_reducible exact CK.out _ _)))
  refine wpQuiet_nil ?_
  intro _ hw'
  obtain ⟨⟨dq, osq⟩, hw''⟩ := hw'
  subst hw''
  have B6 := Lib.hid (below_regrown w dq osq)
  generalize grow (redrawn w dq) osq = W6 at *
  clear hck CK za k0 k1 k2 k3 k4 k5 k6 k7
  go_wp2_with fail
  go_ret
  exact ⟨rfl, B6.out⟩

set_option maxHeartbeats 2000000 in
set_option maxRecDepth 100000 in
theorem meets4_any (v : ConV) (c : ConL) (x : Sl) (X : List Int) (i g : Nat) (a : Addr) (w : World) (hi : i < c.C.length) (hg : ∀ (j : Nat) (u : Value), (v.cells c.kind c.K)[j]? = some u → w.cell? ⟨g, j, none⟩ = some u) (hgl : g < w.heap.size) (ha : w.cell? a = some (.slice x.A x.n x.c)) (hc : IsInts w v.c c.C) (hd : IsInts w v.d c.D) (he : IsInts w v.e c.E) (h : IsInts w x X) (lD : c.D.length = c.C.length) (lE : c.E.length = c.C.length) :
    Calls Tryz.prog 210 (#[.int .i64 (i : Nat)] ++ #[.pointer (some a), .pointer (some ⟨g, 0, none⟩)]) w fun e w' => e = .returned (.bool (gccP c X i)) ∧ Below w.heap.size w w' := by
  show Calls Tryz.prog 210 #[.int .i64 (i : Nat), .pointer (some a), .pointer (some ⟨g, 0, none⟩)] w _
  have CK := Lib.hid (in_regrown' (w := w) (fun W hW => (gcount_any x X (c.C.getD i 0) W (h.below hW)).mono fun _ _ q => ⟨q.1, q.2 ▸ Below.refl _ _⟩))
  have za := cell_regrown ha
  have k3 := cell_regrown (hg 3 _ rfl)
  have k4 := hg 4 _ rfl
  have k5 := hg 5 _ rfl
  have HGL := Lib.hid hgl
  unfold gccP
  obtain ⟨va, vb, ⟨cA, cn, cc⟩, ⟨dA, dn, dc⟩, ⟨eA, en, ec⟩, vr⟩ := v
  obtain ⟨n1, L1, -, -⟩ := hc
  obtain ⟨n2, L2, -, -⟩ := hd
  obtain ⟨n3, L3, -, -⟩ := he
  simp only at n1 L1 n2 L2 n3 L3 k3 k4 k5
  obtain rfl : dn = cn := by omega
  obtain rfl : en = dn := by omega
  have hin : i < en := by omega
  obtain ⟨adC, rfl, hbC, hclC⟩ := L1 (by omega)
  obtain ⟨adD, rfl, hbD, hclD⟩ := L2 (by omega)
  obtain ⟨adE, rfl, hbE, hclE⟩ := L3 (by omega)
  have hC : ∀ d os, (grow (redrawn w d) os).cell? (adC.add i) = some (.int .i64 (c.C.getD i 0)) := cell_regrown (hclC i hin)
  have hD : w.cell? (adD.add i) = some (.int .i64 (c.D.getD i 0)) := hclD i hin
  have hE : w.cell? (adE.add i) = some (.int .i64 (c.E.getD i 0)) := hclE i hin
  have HBD := Lib.hid (show (adD.add i).block < w.heap.size by rw [add_block]; exact hbD)
  have HBE := Lib.hid (show (adE.add i).block < w.heap.size by rw [add_block]; exact hbE)
  generalize c.C.getD i 0 = zc at *
  generalize c.D.getD i 0 = zd at *
  generalize c.E.getD i 0 = ze at *
  generalize countE X zc = T at CK ⊢
  generalize c.kind = kd at *
  generalize c.K = kk at *
  have hix : ((i : Nat) : Int) < ((en : Nat) : Int) := by omega
  clear hclC hclD hclE L1 L2 L3 hbC hbD hbE hi ha hg h lD lE n1 n2 n3 hgl
  go_enter Tryz.func210, Tryz.ntmps210
  go_wp2_with fail
  refine wp_region_quiet_below (by kernel_rfl) (by kernel_rfl) ?_
  repeat (first | go_big_quiet_step (first | (go_at_call 211; with_reducible exact CK.out _ _)) | quiet_step (first | (go_at_call 211; with_reducible exact CK.out _ _)))
  refine wpQuiet_nil ?_
  intro _ hw'
  obtain ⟨⟨dq, osq⟩, hw''⟩ := hw'
  subst hw''
  have B6 := Lib.hid (below_regrown w dq osq)
  generalize grow (redrawn w dq) osq = W6 at *
  have j4 := (B6.out.cell (p := ⟨g, 4, none⟩) HGL.out).trans k4
  have j5 := (B6.out.cell (p := ⟨g, 5, none⟩) HGL.out).trans k5
  have jD := (B6.out.cell HBD.out).trans hD
  have jE := (B6.out.cell HBE.out).trans hE
  clear hC CK za k3 k4 k5 hD hE
  cases e1 : decide (T < zd)
  · cases e2 : decide (ze < T)
    · go_wp2_with fail
      go_ret
      exact ⟨ret_bool (by rw [e1, e2]; rfl), B6.out⟩
    · go_wp2_with fail
      go_ret
      exact ⟨ret_bool (by rw [e1, e2]; rfl), B6.out⟩
  · go_wp2_with fail
    go_ret
    exact ⟨ret_bool (by rw [e1]; rfl), B6.out⟩

theorem meets5_any (x y : Sl) (X Y : List Int) (i : Nat) (a b : Addr) (w : World) (hi : i < X.length) (hl : Y.length = X.length) (ha : w.cell? a = some (.slice x.A x.n x.c)) (hb : w.cell? b = some (.slice y.A y.n y.c)) (hx : IsInts w x X) (hy : IsInts w y Y) :
    Calls Tryz.prog 213 (#[.int .i64 (i : Nat)] ++ #[.pointer (some a), .pointer (some b)]) w fun e w' => e = .returned (.bool (invP X Y i)) ∧ Below w.heap.size w w' := by
  show Calls Tryz.prog 213 #[.int .i64 (i : Nat), .pointer (some a), .pointer (some b)] w _
  have C1 := Lib.hid (leadsBack_any x y X Y i w hx hy hi)
  have C2 := Lib.hid (leadsBack_any y x Y X i w hy hx (by omega))
  unfold invP
  generalize backB X Y i = T1 at C1 ⊢
  generalize backB Y X i = T2 at C2 ⊢
  clear hx hy hi hl
  cases T1
  · go_enter Tryz.func213, Tryz.ntmps213
    go_wp2_with fail
    refine C1.out.mono ?_
    rintro e w1 ⟨rfl, rfl⟩
    go_wp2_with fail
    go_ret
    exact ⟨rfl, Below.refl _ _⟩
  · go_enter Tryz.func213, Tryz.ntmps213
    go_wp2_with fail
    refine C1.out.mono ?_
    rintro e w1 ⟨rfl, rfl⟩
    go_wp2_with fail
    refine C2.out.mono ?_
    rintro e w1 ⟨rfl, rfl⟩
    go_wp2_with fail
    go_ret
    exact ⟨rfl, Below.refl _ _⟩
end Go.Proofs.YtkhmocbfkpbpfaaGreatDoor
