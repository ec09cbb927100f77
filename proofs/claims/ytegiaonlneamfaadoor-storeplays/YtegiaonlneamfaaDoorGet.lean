/- Contracts of a store's methods that read it: Len, Level, has, Get, Fixed, Failed; of Push and Events. -/
import Derived.Test.YtegiaonlneamfaaDoorSto
import Derived.Test.YtegiaonlneamfaaDoorSetsWalk
namespace Go.Proofs.YtegiaonlneamfaaDoor
open Go.RowKit

abbrev ptr (S : Nat) : Value := .pointer (some ⟨S, 0, none⟩)
abbrev nilp : Value := .pointer none

theorem len_nil (w : World) : Calls Tryd.prog 26 #[nilp] w fun e w' => e = .returned (.int .i64 0) ∧ w = w' := by
  go_enter Tryd.func26, Tryd.ntmps26
  go_wp2
  go_ret
  exact ⟨rfl, rfl⟩

theorem level_nil (w : World) : Calls Tryd.prog 19 #[nilp] w fun e w' => e = .returned (.int .i64 0) ∧ w = w' := by
  go_enter Tryd.func19, Tryd.ntmps19
  go_wp2
  go_ret
  exact ⟨rfl, rfl⟩

theorem push_nil (w : World) : Calls Tryd.prog 9 #[nilp] w fun e w' => e = .returned (.tuple #[]) ∧ w = w' := by
  go_enter Tryd.func9, Tryd.ntmps9
  go_wp2
  go_end0
  exact ⟨rfl, rfl⟩

theorem back_nil (l : Int) (w : World) : Calls Tryd.prog 11 #[nilp, .int .i64 l] w fun e w' => e = .returned (.int .i64 1) ∧ w = w' := by
  go_enter Tryd.func11, Tryd.ntmps11
  go_wp2
  go_ret
  exact ⟨rfl, rfl⟩

theorem events_nil (w : World) : Calls Tryd.prog 14 #[nilp] w fun e w' => e = .returned (.slice none 0 0) ∧ w = w' := by
  go_enter Tryd.func14, Tryd.ntmps14
  go_wp2
  go_ret
  exact ⟨rfl, rfl⟩

theorem has_nil (i : Int) (w : World) : Calls Tryd.prog 41 #[nilp, .int .i64 i] w fun e w' => e = .returned (.bool false) ∧ w = w' := by
  by_cases h : 0 ≤ i
  · have h1 : decide (0 ≤ i) = true := by simpa using h
    have h2 : decide (i < 0) = false := by simpa using h
    clear h
    go_enter Tryd.func41, Tryd.ntmps41
    go_wp2_with fail
    refine (len_nil _).mono ?_
    rintro e w' ⟨rfl, rfl⟩
    go_wp2_with fail
    go_ret
    exact ⟨rfl, rfl⟩
  · have h1 : decide (0 ≤ i) = false := by simpa using h
    clear h
    go_enter Tryd.func41, Tryd.ntmps41
    go_wp2_with fail
    go_ret
    exact ⟨rfl, rfl⟩

theorem get_nil (i : Int) (w : World) : Calls Tryd.prog 23 #[nilp, .int .i64 i] w fun e w' => e = .returned (.agg #[.int .i64 0, .slice none 0 0, .int .i64 0]) ∧ Below w.heap.size w w' := by
  go_enter Tryd.func23, Tryd.ntmps23
  go_wp2_with fail
  refine (has_nil i _).mono ?_
  rintro e w' ⟨rfl, rfl⟩
  go_wp2_with fail
  exact bodyPost_ret (v := .agg #[.int .i64 0, .slice none 0 0, .int .i64 0]) (by simp [results, Tryd.results23, go_sem]) rfl ⟨rfl, below1 _ _⟩

theorem fixed_nil (i : Int) (w : World) : Calls Tryd.prog 29 #[nilp, .int .i64 i] w fun e w' => e = .returned (.tuple #[.int .i64 0, .bool false]) ∧ Below w.heap.size w w' := by
  go_enter Tryd.func29, Tryd.ntmps29
  go_wp2_with fail
  refine (get_nil i _).mono ?_
  rintro e w1 ⟨rfl, hb⟩
  go_wp2_with fail
  refine (size_any _ _ _ _ _ _).mono ?_
  rintro e w2 ⟨rfl, hb2⟩
  go_wp2_with fail
  go_ret2
  exact ⟨rfl, (hb.trans ((below1 _ _).mono hb.size)).trans (hb2.mono (by have := hb.size; simp; omega))⟩

theorem failed_nil (w : World) : Calls Tryd.prog 30 #[nilp] w fun e w' => e = .returned (.tuple #[.int .i64 0, .bool false]) ∧ w = w' := by
  go_enter Tryd.func30, Tryd.ntmps30
  go_wp2_with fail
  refine (len_nil _).mono ?_
  rintro e w' ⟨rfl, rfl⟩
  go_wp2_with fail
  refine wp_loop_rounds 1 ?_
  rw [rounds_succ]
  go_wp2_with fail
  go_ret2
  exact ⟨rfl, rfl⟩

theorem narrow_nil (i : Int) (s z : Int) (A : Option Addr) (n c : Nat) (w : World) : Calls Tryd.prog 17 #[nilp, .int .i64 i, .agg #[.int .i64 s, .slice A n c, .int .i64 z]] w fun e w' => e = .returned (.int .i64 0) ∧ Below w.heap.size w w' := by
  go_enter Tryd.func17, Tryd.ntmps17
  go_wp2_with fail
  refine (has_nil i _).mono ?_
  rintro e w' ⟨rfl, rfl⟩
  go_wp2_with fail
  go_ret
  exact ⟨rfl, below1 _ _⟩

section
variable {base S : Nat} {w : World} {st : Sto}

theorem len_store (h : IsStore base w S st) : Calls Tryd.prog 26 #[ptr S] w fun e w' => e = .returned (.int .i64 (st.vs.length : Nat)) ∧ w = w' := by
  obtain ⟨c0, -, -, -⟩ := h.cells
  clear h
  go_enter Tryd.func26, Tryd.ntmps26
  go_wp2
  go_ret
  exact ⟨rfl, rfl⟩

theorem level_store (h : IsStore base w S st) : Calls Tryd.prog 19 #[ptr S] w fun e w' => e = .returned (.int .i64 (st.lev : Nat)) ∧ w = w' := by
  obtain ⟨-, -, c2, -⟩ := h.cells
  clear h
  go_enter Tryd.func19, Tryd.ntmps19
  go_wp2
  go_ret
  exact ⟨rfl, rfl⟩

theorem push_store (h : IsStore base w S st) (hl : st.lev ≤ 1000000) : Calls Tryd.prog 9 #[ptr S] w fun e w' => e = .returned (.tuple #[]) ∧ IsStore base w' S { st with lev := st.lev + 1 } ∧ Fr base w w' := by
  obtain ⟨-, -, c2, -⟩ := h.cells
  have f2 := h.head.free 2
  have H := Lib.hid (h.level (st.lev + 1))
  rw [show ((st.lev + 1 : Nat) : Int) = (st.lev : Int) + 1 by omega] at H
  clear h
  go_enter Tryd.func9, Tryd.ntmps9
  go_wp2
  go_end0
  exact ⟨rfl, H.out⟩

theorem events_store (h : IsStore base w S st) : Calls Tryd.prog 14 #[ptr S] w fun e w' => e = .returned st.ev ∧ IsStore base w' S { st with ev := .slice none 0 0, es := [] } ∧ Fr base w w' := by
  obtain ⟨-, -, -, c3⟩ := h.cells
  have f3 := h.head.free 3
  have H := Lib.hid h.quiet
  clear h
  go_enter Tryd.func14, Tryd.ntmps14
  go_wp2
  go_ret
  exact ⟨rfl, H.out⟩

theorem has_store (h : IsStore base w S st) (i : Int) (b : Bool) (hb : (decide (0 ≤ i) && decide (i < (st.vs.length : Nat))) = b) : Calls Tryd.prog 41 #[ptr S, .int .i64 i] w fun e w' => e = .returned (.bool b) ∧ w = w' := by
  by_cases h0 : 0 ≤ i
  · have h1 : decide (0 ≤ i) = true := by simpa using h0
    rw [h1, Bool.true_and] at hb
    clear h0
    go_enter Tryd.func41, Tryd.ntmps41
    go_wp2_with fail
    refine (len_store h).mono ?_
    rintro e w' ⟨rfl, rfl⟩
    go_wp2_with fail
    go_ret
    exact ⟨by rw [← hb]; rfl, rfl⟩
  · have h1 : decide (0 ≤ i) = false := by simpa using h0
    rw [h1, Bool.false_and] at hb
    subst hb
    clear h0
    go_enter Tryd.func41, Tryd.ntmps41
    go_wp2_with fail
    go_ret
    exact ⟨rfl, rfl⟩

theorem get_out (h : IsStore base w S st) (i : Int) (hi : i < 0 ∨ (st.vs.length : Int) ≤ i) : Calls Tryd.prog 23 #[ptr S, .int .i64 i] w fun e w' => e = .returned (.agg #[.int .i64 0, .slice none 0 0, .int .i64 0]) ∧ Below w.heap.size w w' := by
  have hb : (decide (0 ≤ i) && decide (i < (st.vs.length : Nat))) = false := by
    rcases hi with hi | hi
    · rw [show decide (0 ≤ i) = false by simp; omega]; rfl
    · rw [show decide (i < (st.vs.length : Nat)) = false by simp; omega, Bool.and_false]
  go_enter Tryd.func23, Tryd.ntmps23
  go_wp2_with fail
  refine (has_store (h.below (below1 _ _)) i false hb).mono ?_
  rintro e w' ⟨rfl, rfl⟩
  go_wp2_with fail
  exact bodyPost_ret (v := .agg #[.int .i64 0, .slice none 0 0, .int .i64 0]) (by simp [results, Tryd.results23, go_sem]) rfl ⟨rfl, below1 _ _⟩

theorem get_store (h : IsStore base w S st) (i : Nat) (v : Vr) (hv : st.vs[i]? = some v) : Calls Tryd.prog 23 #[ptr S, .int .i64 (i : Nat)] w fun e w' => e = .returned v.dom ∧ Below w.heap.size w w' := by
  have hi : i < st.vs.length := (List.getElem?_eq_some_iff.1 hv).1
  have hb : (decide (0 ≤ (i : Int)) && decide ((i : Int) < (st.vs.length : Nat))) = true := by simp; omega
  have HS := Lib.hid (h.below (below1 w (.cells #[.int .i64 0, .slice none 0 0, .int .i64 0] 48)))
  obtain ⟨c0, -, -, -⟩ := HS.out.cells
  obtain ⟨v0, v1, v2, -⟩ := vr_cell HS.out.vars hv
  have hi' : (i : Int) < (st.vs.length : Nat) := by omega
  clear h
  unfold Vr.dom
  go_enter Tryd.func23, Tryd.ntmps23
  go_wp2_with fail
  refine (has_store HS.out i true hb).mono ?_
  rintro e w' ⟨rfl, rfl⟩
  go_wp2_with fail
  exact bodyPost_ret (v := .agg #[.int .i64 v.s, .slice v.A v.n v.c, .int .i64 (v.L.length : Nat)]) (by simp [results, Tryd.results23, go_sem]) rfl ⟨rfl, below1 _ _⟩

theorem fixed_store (h : IsStore base w S st) (hT : Tab w) (i : Nat) (v : Vr) (hv : st.vs[i]? = some v) (x : Int) (b : Bool) (hb : decide (v.L.length = 1) = b) (hx : (if v.L.length = 1 then v.L.head?.getD 0 else 0) = x) :
    Calls Tryd.prog 29 #[ptr S, .int .i64 (i : Nat)] w fun e w' => e = .returned (.tuple #[.int .i64 x, .bool b]) ∧ Below w.heap.size w w' := by
  have hd := h.doms v (List.mem_of_getElem? hv)
  have HG := Lib.hid (get_store h i v hv)
  unfold Vr.dom at HG hd
  have HD := Lib.hid hd
  by_cases h1 : v.L.length = 1
  · have hb' : b = true := by rw [← hb]; simpa using h1
    have hx' : v.L.head?.getD 0 = x := by rw [← hx, if_pos h1]
    subst hb'
    have hne : (((v.L.length : Nat) : Int) != 1) = false := by simp [h1]
    have Hx := Lib.hid hx'
    clear hd h h1 hb hx hx'
    go_enter Tryd.func29, Tryd.ntmps29
    go_wp2_with fail
    refine HG.out.mono ?_
    rintro e w1 ⟨rfl, hb1⟩
    have o1 := hb1.trans ((below1 w1 (.cells #[.int .i64 v.s, .slice v.A v.n v.c, .int .i64 (v.L.length : Nat)] 48)).mono hb1.size)
    have B1 := Blk.new w1 #[.int .i64 v.s, .slice v.A v.n v.c, .int .i64 (v.L.length : Nat)] 48
    go_wp2_with fail
    refine (size_any _ _ _ _ _ _).mono ?_
    rintro e w2 ⟨rfl, hb2⟩
    have o2 := o1.trans (hb2.mono o1.size)
    have B2 := B1.below hb2
    have q0 := B2.cell 0
    have q1 := B2.cell 1
    have q2 := B2.cell 2
    simp only [List.getElem?_toArray, List.getElem?_cons_zero, List.getElem?_cons_succ] at q0 q1 q2
    go_wp2_with fail
    refine (min_dom _ v.L w2 (HD.out.below o2) (hT.below o2)).mono ?_
    rintro e w3 ⟨rfl, hb3⟩
    rw [Hx.out]
    go_wp2_with fail
    go_ret2
    exact ⟨rfl, o2.trans (hb3.mono o2.size)⟩
  · have hb' : b = false := by rw [← hb]; simpa using h1
    have hx' : x = 0 := by rw [← hx, if_neg h1]
    subst hb'
    subst hx'
    have hne : (((v.L.length : Nat) : Int) != 1) = true := by simp; omega
    clear hd h h1 hb hx
    go_enter Tryd.func29, Tryd.ntmps29
    go_wp2_with fail
    refine HG.out.mono ?_
    rintro e w1 ⟨rfl, hb1⟩
    have o1 := hb1.trans ((below1 w1 (.cells #[.int .i64 v.s, .slice v.A v.n v.c, .int .i64 (v.L.length : Nat)] 48)).mono hb1.size)
    go_wp2_with fail
    refine (size_any _ _ _ _ _ _).mono ?_
    rintro e w2 ⟨rfl, hb2⟩
    go_wp2_with fail
    go_ret2
    exact ⟨rfl, o1.trans (hb2.mono o1.size)⟩

/-- The first one that is empty. -/
def failI (vs : List Vr) : Option Nat := vs.findIdx? fun v => v.L.length == 0

theorem failI_some (vs : List Vr) (k : Nat) (v : Vr) (hv : vs[k]? = some v) (h0 : v.L.length = 0) (hlt : ∀ (j : Nat) (u : Vr), j < k → vs[j]? = some u → u.L.length ≠ 0) : failI vs = some k := by
  unfold failI
  rw [List.findIdx?_eq_some_iff_getElem]
  obtain ⟨hk, rfl⟩ := List.getElem?_eq_some_iff.1 hv
  refine ⟨hk, by simp [h0], fun j hj => ?_⟩
  have := hlt j vs[j] hj (List.getElem?_eq_getElem _)
  simp [this]

theorem failI_none (vs : List Vr) (hlt : ∀ (j : Nat) (u : Vr), vs[j]? = some u → u.L.length ≠ 0) : failI vs = none := by
  unfold failI
  rw [List.findIdx?_eq_none_iff]
  intro v hv
  obtain ⟨j, hj, rfl⟩ := List.getElem_of_mem hv
  have := hlt j _ (List.getElem?_eq_getElem hj)
  simp [this]

theorem failed_store (h : IsStore base w S st) (hn : st.vs.length ≤ 1000000) : Calls Tryd.prog 30 #[ptr S] w fun e w' => e = .returned (.tuple #[.int .i64 (((failI st.vs).getD 0 : Nat) : Int), .bool (failI st.vs).isSome]) ∧ Below w.heap.size w w' := by
  have HS := Lib.hid h
  have HF := Lib.hid (failI_some st.vs)
  have HN := Lib.hid (failI_none st.vs)
  have HV := Lib.hid fun (k : Nat) (hk : k < st.vs.length) => (⟨st.vs[k], List.getElem?_eq_getElem hk⟩ : ∃ v, st.vs[k]? = some v)
  clear h
  go_enter Tryd.func30, Tryd.ntmps30
  go_wp2_with fail
  refine (len_store HS.out).mono ?_
  rintro e w' ⟨rfl, rfl⟩
  go_wp2_with fail
  go_loopw [7] (fun i wr => ∃ k : Nat, k ≤ st.vs.length ∧ i = .int .i64 (k : Nat) ∧ Hid (∀ (j : Nat) (u : Vr), j < k → st.vs[j]? = some u → u.L.length ≠ 0) ∧ Hid (Below w.heap.size w wr)) (fun i _ => st.vs.length - (intOf i).toNat)
  case atStart => exact ⟨0, by omega, rfl, Lib.hid (fun j u hj => absurd hj (by omega)), Lib.hid (Below.refl _ _)⟩
  case round =>
    obtain ⟨wo, rfl⟩ : ∃ wo, wo = wr := ⟨_, rfl⟩
    obtain ⟨k, hk, rfl, HK, HB⟩ := hrel
    by_cases hlt : k < st.vs.length
    · obtain ⟨v, hv⟩ := HV.out k hlt
      have HSo := Lib.hid (HS.out.below HB.out)
      obtain ⟨c0, -, -, -⟩ := HSo.out.cells
      obtain ⟨v0, v1, v2, -⟩ := vr_cell HSo.out.vars hv
      have Hv := Lib.hid hv
      have hlt' : (k : Int) < (st.vs.length : Nat) := by omega
      by_cases hz : v.L.length = 0
      · have hz' : (((v.L.length : Nat) : Int) == 0) = true := by simp [hz]
        have HE := Lib.hid (HF.out k v hv hz HK.out)
        clear hz hv HK HSo
        go_wp2_with fail
        refine (size_any _ _ _ _ _ _).mono ?_
        rintro e w2 ⟨rfl, hb2⟩
        go_wp2_with fail
        go_ret2
        exact ⟨by rw [HE.out]; rfl, HB.out.trans (hb2.mono HB.out.size)⟩
      · have hz' : (((v.L.length : Nat) : Int) == 0) = false := by simpa using hz
        have HKn : Hid (∀ (j : Nat) (u : Vr), j < k + 1 → st.vs[j]? = some u → u.L.length ≠ 0) := Lib.hid (by
          intro j u hj hu
          by_cases e : j = k
          · subst e
            rw [hv] at hu
            cases hu
            exact hz
          · exact HK.out j u (by omega) hu)
        clear hz hv HK HSo
        go_wp2_with fail
        refine (size_any _ _ _ _ _ _).mono ?_
        rintro e w2 ⟨rfl, hb2⟩
        have HB2 := Lib.hid (HB.out.trans (hb2.mono HB.out.size))
        clear hb2 HB
        go_wp2_with fail
        go_roundw
        case rel => exact ⟨k + 1, by omega, by go_num, HKn, HB2⟩
        case measure => simp [intOf]; omega
    · have HE := Lib.hid (HN.out (fun j u hu => HK.out j u (by have := (List.getElem?_eq_some_iff.1 hu).1; omega) hu))
      clear HK
      go_wp2_with fail
      go_ret2
      exact ⟨by rw [HE.out]; rfl, HB.out⟩
end
end Go.Proofs.YtegiaonlneamfaaDoor
