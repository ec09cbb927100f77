/- Contracts: valuesOf, Compare, needed; the closures of meets. -/
import Derived.Test.YtppiemgdjkehkaaDoorGfn3
import Derived.Test.YtppiemgdjkehkaaDoorMwake
import Derived.Test.YtppiemgdjkehkaaDoorMkp
namespace Go.Proofs.YtppiemgdjkehkaaDoor
open Go.RowKit Go.Sort

/-- A row of numbers that is being filled. -/
def RV (ss : List Int) (n k : Nat) : List Value := (ss.take k).map (Value.int .i64) ++ List.replicate (n - k) (.int .i64 0)
theorem RV_set {ss : List Int} {n k : Nat} (h : k < ss.length) (hn : k < n) : (RV ss n k).set k (.int .i64 (ss.getD k 0)) = RV ss n (k + 1) := by
  unfold RV
  have hl : ((ss.take k).map (Value.int .i64)).length = k := by rw [List.length_map, List.length_take]; omega
  rw [List.set_append_right _ _ (by omega), hl, Nat.sub_self]
  obtain ⟨j, hj⟩ : ∃ j, n - k = j + 1 := ⟨n - k - 1, by omega⟩
  rw [hj, List.replicate_succ, List.set_cons_zero, show n - (k + 1) = j by omega, List.take_add_one, List.getElem?_eq_getElem h, List.map_append, List.append_assoc, List.getD_eq_getElem?_getD, List.getElem?_eq_getElem h]
  rfl
theorem RV_at {ss : List Int} {n k : Nat} (hs : k ≤ ss.length) (hn : k < n) : (RV ss n k)[k]? = some (RV ss n k)[k]?.get! := by
  have : k < (RV ss n k).length := by
    unfold RV
    rw [List.length_append, List.length_replicate, List.length_map, List.length_take]
    rw [Nat.min_eq_left hs]; omega
  rw [List.getElem?_eq_getElem this]
  rfl
theorem RV_full (ss : List Int) : RV ss ss.length ss.length = I ss := by
  unfold RV I
  rw [Nat.sub_self, List.replicate_zero, List.append_nil, List.take_length]
theorem ints_own {w : World} {base : Nat} {y : Sl} {zs : List Int} (h : w.ownsRow base 3 1 (.slice y.A y.n y.c) zs.length (I zs)) (hs : zs.length ≤ 4611686018427387903) : IsInts w y zs := by
  obtain ⟨A, n, c⟩ := y
  obtain ⟨A', c', e, hL, hc⟩ := own_lies h
  simp only [Value.slice.injEq] at e
  obtain ⟨rfl, rfl, rfl⟩ := e
  exact ⟨rfl, hL, hs, hc⟩

set_option maxHeartbeats 1000000 in
theorem values_any (x y : Sl) (L a : List Int) (w : World) (hx : IsInts w x L) (hy : IsInts w y a) (hs : L.length ≤ 64) (hin : ∀ v ∈ L, 0 ≤ v ∧ v < (a.length : Int)) :
    Calls Tryd.prog 28 #[.slice x.A x.n x.c, .slice y.A y.n y.c] w fun e w' => (∃ z : Sl, e = .returned (.slice z.A z.n z.c) ∧ IsInts w' z (valsE L a)) ∧ Below w.heap.size w w' := by
  obtain ⟨A, n, c⟩ := x
  obtain ⟨hn, hL, hbig, hcap⟩ := hx
  obtain ⟨yA, yn, yc⟩ := y
  simp only at hn hL hbig ⊢
  obtain ⟨i0, hi, hz0, hz1, hz2⟩ := info_parts Tryd.info3
  have hmk : (Instr.makeSlice 27 (.int .i64 (n : Nat)) (.int .i64 (n : Nat))).run Tryd.prog w = .ok (.slice (some ⟨w.heap.size, 0, none⟩) n n) (w.alloc (.cells (madeCells #[.int .i64 0] n) 3)) := by
    have := run_make (P := Tryd.prog) w 27 3 i0 (.int .i64 0) Tryd.underlying27 hi hz0 .i64 .i64 (n : Nat) (n : Nat) (by omega) (by omega) (by rw [hz2]; omega) (by omega)
    rw [this, hz1]
    simp [Value.cells]
  have hrow : (w.alloc (.cells (madeCells #[.int .i64 0] n) 3)).ownsRow w.heap.size 3 1 (.slice (some ⟨w.heap.size, 0, none⟩) n n) n (RV (valsE L a) n 0) := by
    have := World.ownsRow_lit (base := w.heap.size) (e := 3) (size := 1) w (madeCells #[Value.int .i64 0] n) n (Nat.le_refl _) (by unfold maxLen; omega) (by simp [madeCells])
    rw [toList_madeCells_one] at this
    simpa [RV] using this
  have HR := Lib.hid hrow
  have HL := Lib.hid hL
  have Hn := Lib.hid hn.symm
  have HY := Lib.hid hy
  have HI := Lib.hid hin
  have hn6 : n ≤ 64 := by omega
  clear hL hn hs hi hz0 hz1 hz2 hrow hy hin
  go_enter Tryd.func28, Tryd.ntmps28
  go_wp2_with fail
  go_loopw [13] (fun i wr => ∃ k : Nat, k ≤ n ∧ i = .int .i64 (k : Nat) ∧ Hid (wr.ownsRow w.heap.size 3 1 (.slice (some ⟨w.heap.size, 0, none⟩) n n) n (RV (valsE L a) n k)) ∧ Hid (Below w.heap.size w wr)) (fun i _ => n - (intOf i).toNat)
  case atStart => exact ⟨0, by omega, rfl, HR, Lib.hid (below1 _ _)⟩
  case round =>
    obtain ⟨k, hk, rfl, HO, HB⟩ := hrel
    by_cases hlt : k < n
    · obtain ⟨ad, rfl, hbk, hcl⟩ := HL.out (by omega)
      have hck : wr.cell? (ad.add k) = some (.int .i64 (L.getD k 0)) := (HB.out.cell (by rw [add_block]; exact hbk)).trans (hcl k hlt)
      have hLk : k < L.length := by rw [Hn.out]; exact hlt
      have hv := HI.out _ (getD_mem L k hLk)
      have hvl : k < (valsE L a).length := by unfold valsE; rw [List.length_map]; exact hLk
      have HK : Hid (k ≤ (valsE L a).length) := Lib.hid (Nat.le_of_lt hvl)
      have HS := Lib.hid (RV_set (ss := valsE L a) (n := n) (k := k) hvl hlt)
      have hfk : (valsE L a).getD k 0 = atE a (L.getD k 0) := by
        unfold valsE
        rw [List.getD_eq_getElem?_getD, List.getElem?_map, List.getD_eq_getElem?_getD, List.getElem?_eq_getElem hLk]
        rfl
      rw [hfk] at HS
      obtain ⟨m, hm⟩ : ∃ m : Nat, L.getD k 0 = (m : Int) := ⟨(L.getD k 0).toNat, by omega⟩
      rw [hm] at hck HS hv
      obtain ⟨yl, yL, ybig, ycap⟩ := HY.out
      simp only at yl yL ybig ycap
      have hmy : m < yn := by omega
      obtain ⟨bd, rfl, hbb, hbl⟩ := yL (by omega)
      have hcb : wr.cell? (bd.add m) = some (.int .i64 (atE a (m : Int))) := (HB.out.cell (by rw [add_block]; exact hbb)).trans (hbl m hmy)
      generalize atE a (m : Int) = z at hcb HS
      have cw := HO.out.cellAt k (by omega)
      rw [RV_at (ss := valsE L a) (n := n) (k := k) HK.out hlt] at cw
      have fw := HO.out.frozenAt k
      have hst := (HO.out.stored k (.int .i64 z)).1
      rw [HS.out] at hst
      have HO2 := Lib.hid hst
      clear hst hcl hbk hfk hvl hLk hm hv yl yL ycap hbl hbb HO HS
      go_wp2_with fail
      go_roundw
      case rel => exact ⟨k + 1, by omega, by go_num, HO2, Lib.hid (HB.out.setCell (p := ⟨w.heap.size, k, none⟩) (Nat.le_refl _) _)⟩
      case measure => simp [intOf]; omega
    · have hl : (valsE L a).length = n := by unfold valsE; rw [List.length_map, Hn.out]
      have HF : Hid (IsInts wr ⟨some ⟨w.heap.size, 0, none⟩, n, n⟩ (valsE L a)) := Lib.hid (by
        have h0 := HO.out
        rw [show k = n by omega] at h0
        have h1 : RV (valsE L a) n n = I (valsE L a) := by
          have := RV_full (valsE L a)
          rwa [hl] at this
        rw [h1] at h0
        refine ints_own (y := ⟨some ⟨w.heap.size, 0, none⟩, n, n⟩) (base := w.heap.size) ?_ (by omega)
        rw [hl]
        exact h0)
      clear HO
      go_wp2_with fail
      go_ret
      exact ⟨⟨⟨some ⟨w.heap.size, 0, none⟩, n, n⟩, rfl, HF.out⟩, HB.out⟩

def cmpE (a b : Int) : Int := if a < b then -1 else if b < a then 1 else 0
theorem isNaN_any (a : Int) (w : World) : Calls Tryd.prog 92 #[.int .i64 a] w fun e w' => e = .returned (.bool false) ∧ w = w' := by
  go_enter Tryd.func92, Tryd.ntmps92
  go_wp2_with fail
  go_ret
  exact ⟨ret_bool (by simp), rfl⟩
theorem cmp_any (a b : Int) (w : World) : Calls Tryd.prog 83 #[.int .i64 a, .int .i64 b] w fun e w' => e = .returned (.int .i64 (cmpE a b)) ∧ w = w' := by
  have C1 := Lib.hid (isNaN_any a w)
  have C2 := Lib.hid (isNaN_any b w)
  unfold cmpE
  by_cases h1 : a < b
  · have e1 : decide (a < b) = true := by simpa using h1
    rw [if_pos h1]
    clear h1
    go_enter Tryd.func83, Tryd.ntmps83
    go_wp2_with fail
    refine C1.out.mono ?_
    rintro e w1 ⟨rfl, rfl⟩
    go_wp2_with fail
    refine C2.out.mono ?_
    rintro e w1 ⟨rfl, rfl⟩
    go_wp2_with fail
    go_ret
    exact ⟨rfl, rfl⟩
  · have e1 : decide (a < b) = false := by simpa using h1
    rw [if_neg h1]
    clear h1
    by_cases h2 : b < a
    · have e2 : decide (b < a) = true := by simpa using h2
      rw [if_pos h2]
      clear h2
      go_enter Tryd.func83, Tryd.ntmps83
      go_wp2_with fail
      refine C1.out.mono ?_
      rintro e w1 ⟨rfl, rfl⟩
      go_wp2_with fail
      refine C2.out.mono ?_
      rintro e w1 ⟨rfl, rfl⟩
      go_wp2_with fail
      go_ret
      exact ⟨rfl, rfl⟩
    · have e2 : decide (b < a) = false := by simpa using h2
      rw [if_neg h2]
      clear h2
      go_enter Tryd.func83, Tryd.ntmps83
      go_wp2_with fail
      refine C1.out.mono ?_
      rintro e w1 ⟨rfl, rfl⟩
      go_wp2_with fail
      refine C2.out.mono ?_
      rintro e w1 ⟨rfl, rfl⟩
      go_wp2_with fail
      go_ret
      exact ⟨rfl, rfl⟩

/-- What Compare tells of two lists. -/
def compE : List Int → List Int → Int
  | [], [] => 0
  | [], _ :: _ => -1
  | _ :: _, [] => 1
  | a :: s, b :: t => if cmpE a b != 0 then cmpE a b else compE s t
theorem comp_lex (x y : List Int) : decide (compE x y ≤ 0) = lexB x y := by
  induction x generalizing y with
  | nil => cases y <;> simp [compE, lexB]
  | cons a s ih =>
    cases y with
    | nil => simp [compE, lexB]
    | cons b t =>
      unfold compE lexB cmpE
      by_cases h1 : a < b
      · simp [h1]
      · by_cases h2 : b < a
        · simp [h1, h2]
        · simp only [h1, h2, if_false]
          simpa using ih t
theorem drop_at {L : List Int} {k : Nat} (h : k < L.length) : L.drop k = L.getD k 0 :: L.drop (k + 1) := by
  rw [List.drop_eq_getElem_cons h, List.getD_eq_getElem?_getD, List.getElem?_eq_getElem h]
  rfl

set_option maxHeartbeats 1000000 in
theorem compare_any (x y : Sl) (X Y : List Int) (w : World) (hx : IsInts w x X) (hy : IsInts w y Y) (hl : X.length = Y.length) :
    Calls Tryd.prog 60 #[.slice x.A x.n x.c, .slice y.A y.n y.c] w fun e w' => e = .returned (.int .i64 (compE X Y)) ∧ w = w' := by
  obtain ⟨A, n, c⟩ := x
  obtain ⟨hn, hL, hbig, hcap⟩ := hx
  obtain ⟨A', n', c'⟩ := y
  obtain ⟨hn', hL', hbig', hcap'⟩ := hy
  simp only at hn hL hbig hn' hL' ⊢
  obtain rfl : n' = n := by omega
  have HL := Lib.hid hL
  have HL' := Lib.hid hL'
  have HX := Lib.hid hn
  have HY := Lib.hid hn'
  have HE : Hid (compE X Y = compE (X.drop 0) (Y.drop 0)) := Lib.hid rfl
  generalize compE X Y = D at HE ⊢
  clear hL hL' hn hn' hl hcap hcap'
  go_enter Tryd.func60, Tryd.ntmps60
  go_wp2_with fail
  go_loopw [11] (fun i wr => ∃ (k : Nat), i = .int .i64 (k : Nat) ∧ k ≤ n' ∧ Hid (D = compE (X.drop k) (Y.drop k)) ∧ Hid (w = wr)) (fun i _ => n' - (intOf i).toNat)
  case atStart => exact ⟨0, rfl, by omega, HE, Lib.hid rfl⟩
  case round =>
    obtain ⟨k, rfl, hk, HT, HB⟩ := hrel
    by_cases hlt : k < n'
    · obtain ⟨ad, rfl, hbk, hcl⟩ := HL.out (by omega)
      obtain ⟨ad', rfl, hbk', hcl'⟩ := HL'.out (by omega)
      have hck : wr.cell? (ad.add k) = some (.int .i64 (X.getD k 0)) := by rw [← HB.out]; exact hcl k hlt
      have hck' : wr.cell? (ad'.add k) = some (.int .i64 (Y.getD k 0)) := by rw [← HB.out]; exact hcl' k hlt
      have HT2 : Hid (D = if cmpE (X.getD k 0) (Y.getD k 0) != 0 then cmpE (X.getD k 0) (Y.getD k 0) else compE (X.drop (k + 1)) (Y.drop (k + 1))) := Lib.hid (by rw [HT.out, drop_at (L := X) (k := k) (by rw [← HX.out]; exact hlt), drop_at (L := Y) (k := k) (by rw [← HY.out]; exact hlt), compE])
      have CC := Lib.hid (cmp_any (X.getD k 0) (Y.getD k 0) wr)
      clear hcl hbk hcl' hbk' HT
      generalize X.getD k 0 = a at *
      generalize Y.getD k 0 = b at *
      generalize cmpE a b = r at CC HT2
      cases hr : (r != 0)
      · have HT3 : Hid (D = compE (X.drop (k + 1)) (Y.drop (k + 1))) := Lib.hid (by rw [HT2.out, hr]; simp)
        clear HT2
        go_wp2_with fail
        refine CC.out.mono ?_
        rintro e w1 ⟨rfl, rfl⟩
        go_wp2_with fail
        go_roundw
        case rel => exact ⟨k + 1, by go_num, by omega, HT3, HB⟩
        case measure => simp [intOf]; omega
      · have HT3 : Hid (D = r) := Lib.hid (by rw [HT2.out, hr]; simp)
        clear HT2
        go_wp2_with fail
        refine CC.out.mono ?_
        rintro e w1 ⟨rfl, rfl⟩
        go_wp2_with fail
        go_ret
        exact ⟨by rw [HT3.out]; rfl, HB.out⟩
    · have HT2 : Hid (D = 0) := Lib.hid (by rw [HT.out, List.drop_of_length_le (by have := HX.out; omega), List.drop_of_length_le (by have := HY.out; omega)]; rfl)
      clear HT HE
      go_wp2_with fail
      go_ret
      exact ⟨by rw [HT2.out]; rfl, HB.out⟩
end Go.Proofs.YtppiemgdjkehkaaDoor
