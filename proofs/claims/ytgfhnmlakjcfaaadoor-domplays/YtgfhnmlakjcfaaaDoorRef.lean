/- Contracts of the reference's Has, Next, Prev and Range: they only read. -/
import Derived.Test.YtgfhnmlakjcfaaaDoorWalkm
namespace Go.Proofs.YtgfhnmlakjcfaaaDoor
open Go.RowKit

theorem take_getD (zs : List Int) (k : Nat) (h : k < zs.length) : zs.take (k + 1) = zs.take k ++ [zs.getD k 0] := by
  rw [List.take_succ_eq_append_getElem h, List.getD_eq_getElem?_getD, List.getElem?_eq_getElem h]
  rfl

theorem drop_getD (zs : List Int) (k : Nat) (h : k < zs.length) : zs.drop k = zs.getD k 0 :: zs.drop (k + 1) := by
  rw [List.drop_eq_getElem_cons h, List.getD_eq_getElem?_getD, List.getElem?_eq_getElem h]
  rfl

theorem refhas_no (A : Option Addr) (c : Nat) (v : Int) (w : World) : Calls Tryd.prog 37 #[.slice A 0 c, .int .i64 v] w fun e w' => e = .returned (.bool false) ∧ w = w' := by
  go_enter Tryd.func37, Tryd.ntmps37
  go_wp2
  refine wp_loop_rounds 1 ?_
  rw [rounds_succ]
  go_wp2
  go_ret
  exact ⟨rfl, rfl⟩

theorem refhas_any (A : Option Addr) (zs : List Int) (n c : Nat) (v : Int) (w : World) (hn : n = zs.length) (h : Lies w A n (i64f zs)) (hbig : n ≤ 2000064) :
    Calls Tryd.prog 37 #[.slice A n c, .int .i64 v] w fun e w' => e = .returned (.bool (decide (v ∈ zs))) ∧ w = w' := by
  by_cases hp : 0 < n
  · obtain ⟨a, rfl, ha, hca⟩ := h hp
    have Ha := Lib.hid hca
    have Hn := Lib.hid hn
    clear hca hn h
    go_enter Tryd.func37, Tryd.ntmps37
    go_wp2
    go_loop [5] (fun i => ∃ k : Nat, k ≤ n ∧ i = .int .i64 (k : Nat) ∧ Hid (v ∉ zs.take k)) (fun i => n - (intOf i).toNat)
    case atStart => exact ⟨0, Nat.zero_le _, rfl, by show v ∉ _; simp⟩
    case round =>
      obtain ⟨k, hk, rfl, HE⟩ := hrel
      by_cases hlt : k < n
      · have ck : w.cell? (a.add k) = some (.int .i64 (zs.getD k 0)) := Ha.out k hlt
        have Ht := Lib.hid (take_getD zs k (by rw [← Hn.out]; exact hlt))
        have Hg := Lib.hid (getD_mem zs k (by rw [← Hn.out]; exact hlt))
        generalize zs.getD k 0 = x at *
        by_cases hx : x = v
        · have hx' : (x == v) = true := by simpa using hx
          have Hx := Lib.hid hx
          clear hx
          go_wp2
          go_ret
          have : decide (v ∈ zs) = true := by have := Hg.out; rw [Hx.out] at this; simpa using this
          exact ⟨by rw [this]; rfl, rfl⟩
        · have hx' : (x == v) = false := by simpa using hx
          have HE2 : Hid (v ∉ zs.take (k + 1)) := by
            show v ∉ _
            rw [Ht.out, List.mem_append]
            rintro (q | q)
            · exact HE.out q
            · simp at q; exact hx q.symm
          clear hx
          go_wp2
          go_round
          case rel => exact ⟨k + 1, by omega, by go_num, HE2⟩
          case measure => simp [intOf]; omega
      · have hall : zs.take k = zs := List.take_of_length_le (by rw [← Hn.out]; omega)
        have hno : decide (v ∈ zs) = false := by have := HE.out; rw [hall] at this; simpa using this
        have Hno := Lib.hid hno
        clear hall hno
        go_wp2
        go_ret
        exact ⟨by rw [Hno.out]; rfl, rfl⟩
  · have h0 : n = 0 := by omega
    have : zs = [] := List.eq_nil_of_length_eq_zero (by omega)
    subst this
    rw [h0]
    simpa using refhas_no A c v w

theorem refnext_no (A : Option Addr) (c : Nat) (v : Int) (w : World) : Calls Tryd.prog 38 #[.slice A 0 c, .int .i64 v] w fun e w' => e = .returned (.tuple #[.int .i64 0, .bool false]) ∧ w = w' := by
  go_enter Tryd.func38, Tryd.ntmps38
  go_wp2
  refine wp_loop_rounds 1 ?_
  rw [rounds_succ]
  go_wp2
  go_ret2
  exact ⟨rfl, rfl⟩

theorem refnext_any (A : Option Addr) (zs : List Int) (n c : Nat) (v : Int) (w : World) (hn : n = zs.length) (h : Lies w A n (i64f zs)) (hbig : n ≤ 2000064) :
    Calls Tryd.prog 38 #[.slice A n c, .int .i64 v] w fun e w' => e = .returned (optV (nextI zs v)) ∧ w = w' := by
  by_cases hp : 0 < n
  · obtain ⟨a, rfl, ha, hca⟩ := h hp
    have Ha := Lib.hid hca
    have Hn := Lib.hid hn
    clear hca hn h
    go_enter Tryd.func38, Tryd.ntmps38
    go_wp2
    go_loop [6] (fun i => ∃ k : Nat, k ≤ n ∧ i = .int .i64 (k : Nat) ∧ Hid (nextI zs v = nextI (zs.drop k) v)) (fun i => n - (intOf i).toNat)
    case atStart => exact ⟨0, Nat.zero_le _, rfl, by show _ = _; simp⟩
    case round =>
      obtain ⟨k, hk, rfl, HE⟩ := hrel
      by_cases hlt : k < n
      · have ck : w.cell? (a.add k) = some (.int .i64 (zs.getD k 0)) := Ha.out k hlt
        have Ht := Lib.hid (drop_getD zs k (by rw [← Hn.out]; exact hlt))
        generalize zs.getD k 0 = x at *
        by_cases hx : v < x
        · have hres : Hid (nextI zs v = some x) := by
            show _ = _
            rw [HE.out, Ht.out]; unfold nextI; rw [List.find?_cons]; simp [hx]
          go_wp2
          go_ret2
          exact ⟨by rw [hres.out]; rfl, rfl⟩
        · have HE2 : Hid (nextI zs v = nextI (zs.drop (k + 1)) v) := by
            show _ = _
            rw [HE.out, Ht.out]; unfold nextI; rw [List.find?_cons]; simp [hx]
          go_wp2
          go_round
          case rel => exact ⟨k + 1, by omega, by go_num, HE2⟩
          case measure => simp [intOf]; omega
      · have hall : zs.drop k = [] := List.drop_eq_nil_of_le (by rw [← Hn.out]; omega)
        have hno : nextI zs v = none := by rw [HE.out, hall]; rfl
        have Hno := Lib.hid hno
        clear hall hno
        go_wp2
        go_ret2
        exact ⟨by rw [Hno.out]; rfl, rfl⟩
  · have h0 : n = 0 := by omega
    have : zs = [] := List.eq_nil_of_length_eq_zero (by omega)
    subst this
    rw [h0]
    exact refnext_no A c v w

theorem refprev_no (A : Option Addr) (c : Nat) (v : Int) (w : World) : Calls Tryd.prog 39 #[.slice A 0 c, .int .i64 v] w fun e w' => e = .returned (.tuple #[.int .i64 0, .bool false]) ∧ w = w' := by
  go_enter Tryd.func39, Tryd.ntmps39
  go_wp2
  refine wp_loop_rounds 1 ?_
  rw [rounds_succ]
  go_wp2
  go_ret2
  exact ⟨rfl, rfl⟩

theorem refprev_any (A : Option Addr) (zs : List Int) (n c : Nat) (v : Int) (w : World) (hn : n = zs.length) (h : Lies w A n (i64f zs)) (hbig : n ≤ 2000064) :
    Calls Tryd.prog 39 #[.slice A n c, .int .i64 v] w fun e w' => e = .returned (optV (prevI zs v)) ∧ w = w' := by
  by_cases hp : 0 < n
  · obtain ⟨a, rfl, ha, hca⟩ := h hp
    have Ha := Lib.hid hca
    have Hn := Lib.hid hn
    clear hca hn h
    go_enter Tryd.func39, Tryd.ntmps39
    go_wp2
    go_loop [6] (fun i => ∃ (k : Nat) (y : Int), k ≤ n ∧ i = .int .i64 y ∧ y = (k : Int) - 1 ∧ Hid (prevI zs v = prevI (zs.take k) v)) (fun i => (intOf i + 1).toNat)
    case atStart => exact ⟨n, _, Nat.le_refl _, rfl, by omega, by show _ = _; rw [List.take_of_length_le (Nat.le_of_eq Hn.out.symm)]⟩
    case round =>
      obtain ⟨k, y, hk, rfl, hy, HE⟩ := hrel
      by_cases hlt : 0 < k
      · obtain ⟨j, hj⟩ : ∃ j : Nat, k = j + 1 := ⟨k - 1, by omega⟩
        have hyj : y = (j : Int) := by omega
        have hjn : j < n := by omega
        have ck : w.cell? (a.add j) = some (.int .i64 (zs.getD j 0)) := Ha.out j hjn
        have Ht := Lib.hid (take_getD zs j (by rw [← Hn.out]; exact hjn))
        rw [hj] at HE
        rw [hyj]
        clear hy hyj hlt
        clear hj hk
        generalize zs.getD j 0 = x at *
        by_cases hx : x < v
        · have hres : Hid (prevI zs v = some x) := by
            show _ = _
            rw [HE.out, Ht.out]; unfold prevI; rw [List.reverse_append]; simp [hx]
          go_wp2
          go_ret2
          exact ⟨by rw [hres.out]; rfl, rfl⟩
        · have HE2 : Hid (prevI zs v = prevI (zs.take j) v) := by
            show _ = _
            rw [HE.out, Ht.out]; unfold prevI; rw [List.reverse_append]; simp [hx]
          go_wp2
          go_round
          case rel => exact ⟨j, (j : Int) - 1, by omega, by go_num, rfl, HE2⟩
          case measure => simp [intOf]
      · have hy0 : y = -1 := by omega
        have hk0 : k = 0 := by omega
        have hno : prevI zs v = none := by rw [HE.out, hk0]; rfl
        have Hno := Lib.hid hno
        rw [hy0]
        clear hno hk0 hy0 hy
        go_wp2
        go_ret2
        exact ⟨by rw [Hno.out]; rfl, rfl⟩
  · have h0 : n = 0 := by omega
    have : zs = [] := List.eq_nil_of_length_eq_zero (by omega)
    subst this
    rw [h0]
    exact refprev_no A c v w

theorem refrange_any (lo hi : Int) (w : World) : Calls Tryd.prog 12 #[.int .i64 lo, .int .i64 hi] w fun e w' => e = .returned (.int .i64 (rangeErr lo hi)) ∧ w = w' := by
  unfold rangeErr
  by_cases hm : mayB lo = true ∧ mayB hi = true
  · rw [if_pos hm]
    have a := (mayB_iff lo).1 hm.1
    have b := (mayB_iff hi).1 hm.2
    clear hm
    by_cases h4 : hi < lo
    · rw [if_pos h4]
      go_enter Tryd.func12, Tryd.ntmps12
      go_wp2
      go_ret
      exact ⟨rfl, rfl⟩
    · rw [if_neg h4]
      by_cases h5 : 65536 ≤ hi - lo
      · rw [if_pos h5]
        go_enter Tryd.func12, Tryd.ntmps12
        go_wp2
        go_ret
        exact ⟨rfl, rfl⟩
      · rw [if_neg h5]
        go_enter Tryd.func12, Tryd.ntmps12
        go_wp2
        go_ret
        exact ⟨rfl, rfl⟩
  · rw [if_neg hm]
    have hm' : lo < -1000000 ∨ 1000000 < lo ∨ hi < -1000000 ∨ 1000000 < hi := by
      rw [mayB_iff, mayB_iff] at hm; omega
    clear hm
    by_cases h1 : lo < -1000000
    · clear hm'
      go_enter Tryd.func12, Tryd.ntmps12
      go_wp2
      go_ret
      exact ⟨rfl, rfl⟩
    · by_cases h2 : 1000000 < lo
      · clear hm'
        go_enter Tryd.func12, Tryd.ntmps12
        go_wp2
        go_ret
        exact ⟨rfl, rfl⟩
      · by_cases h3 : hi < -1000000
        · clear hm'
          go_enter Tryd.func12, Tryd.ntmps12
          go_wp2
          go_ret
          exact ⟨rfl, rfl⟩
        · have h4 : 1000000 < hi := by omega
          clear hm'
          go_enter Tryd.func12, Tryd.ntmps12
          go_wp2
          go_ret
          exact ⟨rfl, rfl⟩
end Go.Proofs.YtgfhnmlakjcfaaaDoor
