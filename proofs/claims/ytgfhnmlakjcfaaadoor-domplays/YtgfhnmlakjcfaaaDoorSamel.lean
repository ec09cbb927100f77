/- Contract of the law's own same: it answers true of a domain and its list. -/
import Derived.Test.YtgfhnmlakjcfaaaDoorRefOf
namespace Go.Proofs.YtgfhnmlakjcfaaaDoor
open Go.RowKit Go.Sort

set_option maxHeartbeats 4000000 in
set_option maxRecDepth 100000 in
theorem same_true (s : Int) (A B : Option Addr) (m c cB : Nat) (L : List Int) (v : Int) (w : World) (hd : IsDom w (.agg #[.int .i64 s, .slice A m c, .int .i64 (L.length : Nat)]) L) (hB : Lies w B L.length (i64f L)) (hT : Tab w) (h1 : -9223372036854775808 ≤ v) (h2 : v ≤ 9223372036854775807) :
    Calls Tryd.prog 10 #[.agg #[.int .i64 s, .slice A m c, .int .i64 (L.length : Nat)], .slice B L.length cB, .int .i64 v] w fun e w' => e = .returned (.bool true) ∧ Below w.heap.size w w' := by
  have hLn := hd.len
  have HNx := Lib.hid fun W (hW : Below w.heap.size w W) => next_dom _ L v W (hd.below hW) (hT.below hW) h1
  have HPv := Lib.hid fun W (hW : Below w.heap.size w W) => prev_dom _ L v W (hd.below hW) (hT.below hW) h2
  have HRn := Lib.hid fun W (hW : Below w.heap.size w W) => refnext_any B L L.length cB v W rfl (hB.below hW) hLn
  have HRp := Lib.hid fun W (hW : Below w.heap.size w W) => refprev_any B L L.length cB v W rfl (hB.below hW) hLn
  have HRh := Lib.hid fun W (hW : Below w.heap.size w W) => refhas_any B L L.length cB v W rfl (hB.below hW) hLn
  have HHs := Lib.hid fun W (hW : Below w.heap.size w W) => has_dom _ L v W (hd.below hW) h1 h2
  have HSz := Lib.hid fun W (hW : Below w.heap.size w W) => size_dom _ L W (hd.below hW)
  have HMn := Lib.hid fun W (hW : Below w.heap.size w W) => min_dom _ L W (hd.below hW) (hT.below hW)
  have HMx := Lib.hid fun W (hW : Below w.heap.size w W) => max_dom _ L W (hd.below hW)
  have HEq := Lib.hid fun A6 k6 W (h6 : Lies W A6 L.length (i64f L)) (hW : Below w.heap.size w W) => equal_i A6 B L L k6 cB W h6 (hB.below hW) (by omega) (by omega)
  have HX0 := Lib.hid (Box.new hd)
  unfold optV at HNx HPv HRn HRp
  obtain ⟨x, hx⟩ : ∃ x, (nextI L v).getD 0 = x := ⟨_, rfl⟩
  obtain ⟨bx, hbx⟩ : ∃ x, (nextI L v).isSome = x := ⟨_, rfl⟩
  obtain ⟨y, hy⟩ : ∃ x, (prevI L v).getD 0 = x := ⟨_, rfl⟩
  obtain ⟨bq, hby⟩ : ∃ x, (prevI L v).isSome = x := ⟨_, rfl⟩
  obtain ⟨hs, hhs⟩ : ∃ x, decide (v ∈ L) = x := ⟨_, rfl⟩
  rw [hx, hbx] at HNx HRn
  rw [hy, hby] at HPv HRp
  rw [hhs] at HHs HRh
  rw [show decide (L = L) = true by simp] at HEq
  clear hx hbx hy hby hhs
  by_cases hp : 0 < L.length
  · obtain ⟨a, rfl, ha, hca⟩ := hB hp
    obtain ⟨k, hk⟩ : ∃ k, L.length = k + 1 := ⟨L.length - 1, by omega⟩
    have e0 : L.head?.getD 0 = L.getD 0 0 := by rw [List.head?_eq_getElem?, List.getD_eq_getElem?_getD]
    have e1 : L.getLast?.getD 0 = L.getD k 0 := by rw [List.getLast?_eq_getElem?, List.getD_eq_getElem?_getD, hk]; rfl
    have c0 : (w.alloc (.cells #[.int .i64 s, .slice A m c, .int .i64 (L.length : Nat)] 27)).cell? a = some (.int .i64 (L.getD 0 0)) := ((below1 w _).cell ha).trans (by have := hca 0 hp; rwa [add_zero] at this)
    have c1 : (w.alloc (.cells #[.int .i64 s, .slice A m c, .int .i64 (L.length : Nat)] 27)).cell? (a.add k) = some (.int .i64 (L.getD k 0)) := ((below1 w _).cell (by rw [add_block]; exact ha)).trans (hca k (by omega))
    rw [e0] at HMn
    rw [e1] at HMx
    clear hca hd hB e0 e1
    generalize L.getD 0 0 = lo at *
    generalize L.getD k 0 = hi at *
    have hw1 : IntKind.i64.wrap (((L.length : Nat) : Int) - 1) = (k : Int) := by rw [IntWalk.i64_in _ (by omega)]; omega
    have hki : (k : Int) < ((L.length : Nat) : Int) := by omega
    have hwo : (w.alloc (.cells #[.int .i64 s, .slice A m c, .int .i64 (L.length : Nat)] 27)).heap.size = w.heap.size + 1 := by simp
    have HBo := Lib.hid (below1 w (.cells #[.int .i64 s, .slice A m c, .int .i64 (L.length : Nat)] 27))
    clear hk
    go_enter Tryd.func10, Tryd.ntmps10
    go_wp2
    go_quiet (fail)
    have HB0 := Lib.hid (below_drewN HBo.out nq)
    have hbo : Below (w.alloc (.cells #[.int .i64 s, .slice A m c, .int .i64 (L.length : Nat)] 27)).heap.size (w.alloc (.cells #[.int .i64 s, .slice A m c, .int .i64 (L.length : Nat)] 27)) ((w.alloc (.cells #[.int .i64 s, .slice A m c, .int .i64 (L.length : Nat)] 27)).drewN nq) := below_drewN (Below.refl _ _) nq
    have HX0 := Lib.hid (HX0.out.below hbo)
    generalize (w.alloc (.cells #[.int .i64 s, .slice A m c, .int .i64 (L.length : Nat)] 27)).drewN nq = w0 at *
    obtain ⟨-, x0, x1, x2⟩ := HX0.out.at3
    clear hbo c0 c1 HBo
    go_wp2_with fail
    refine (HNx.out _ HB0.out).mono ?_
    rintro e w1 ⟨rfl, hb1⟩
    have HB1 := Lib.hid (HB0.out.trans (hb1.mono HB0.out.size))
    have HX := Lib.hid (HX0.out.below hb1)
    clear hb1 HX0
    go_wp2_with fail
    refine (HRn.out _ HB1.out).mono ?_
    rintro e w2 ⟨rfl, rfl⟩
    obtain ⟨-, x0, x1, x2⟩ := HX.out.at3
    go_wp2_with fail
    refine (HPv.out _ HB1.out).mono ?_
    rintro e w2 ⟨rfl, hb2⟩
    have HB2 := Lib.hid (HB1.out.trans (hb2.mono HB1.out.size))
    have HX2 := Lib.hid (HX.out.below hb2)
    clear hb2 HX HB1 x0 x1 x2
    go_wp2_with fail
    refine (HRp.out _ HB2.out).mono ?_
    rintro e w3 ⟨rfl, rfl⟩
    obtain ⟨-, x0, x1, x2⟩ := HX2.out.at3
    go_wp2_with fail
    refine (HSz.out _ HB2.out).mono ?_
    rintro e w3 ⟨rfl, hb3⟩
    have HB3 := Lib.hid (HB2.out.trans (hb3.mono HB2.out.size))
    have HX3 := Lib.hid (HX2.out.below hb3)
    clear hb3 HX2 HB2 x0 x1 x2
    obtain ⟨-, x0, x1, x2⟩ := HX3.out.at3
    go_wp2_with fail
    refine (HMn.out _ HB3.out).mono ?_
    rintro e w4 ⟨rfl, hb4⟩
    have HB4 := Lib.hid (HB3.out.trans (hb4.mono HB3.out.size))
    have HX4 := Lib.hid (HX3.out.below hb4)
    clear hb4 HX3 HB3 x0 x1 x2
    obtain ⟨-, x0, x1, x2⟩ := HX4.out.at3
    go_wp2_with fail
    refine (HMx.out _ HB4.out).mono ?_
    rintro e w5 ⟨rfl, hb5⟩
    have HB5 := Lib.hid (HB4.out.trans (hb5.mono HB4.out.size))
    have HX5 := Lib.hid (HX4.out.below hb5)
    clear hb5 HX4 HB4 x0 x1 x2
    obtain ⟨-, x0, x1, x2⟩ := HX5.out.at3
    go_wp2_with fail
    refine (list_parts _ _ _ HX5.out.dom (hT.below HB5.out)).mono ?_
    rintro e w6 ⟨A6, k6, rfl, hl6, -, hb6⟩
    have HB6 := Lib.hid (HB5.out.trans (hb6.mono HB5.out.size))
    have HX6 := Lib.hid (HX5.out.below hb6)
    have HL6 := Lib.hid hl6
    clear hb6 HX5 HB5 x0 x1 x2 hl6
    go_wp2_with fail
    refine (HEq.out _ _ _ HL6.out HB6.out).mono ?_
    rintro e w7 ⟨rfl, hb7⟩
    have HB7 := Lib.hid (HB6.out.trans (hb7.mono HB6.out.size))
    have HX7 := Lib.hid (HX6.out.below hb7)
    clear hb7 HX6 HB6 HL6
    obtain ⟨-, x0, x1, x2⟩ := HX7.out.at3
    go_wp2_with fail
    refine (HHs.out _ HB7.out).mono ?_
    rintro e w8 ⟨rfl, hb8⟩
    have HB8 := Lib.hid (HB7.out.trans (hb8.mono HB7.out.size))
    clear hb8 HX7 HB7 x0 x1 x2
    go_wp2_with fail
    refine (HRh.out _ HB8.out).mono ?_
    rintro e w9 ⟨rfl, rfl⟩
    go_wp2_with fail
    go_ret
    exact ⟨rfl, HB8.out⟩
  · have h0 : L = [] := List.eq_nil_of_length_eq_zero (by omega)
    subst h0
    clear hd hB hp
    have e0 : (([] : List Int).head?.getD 0) = 0 := rfl
    have e1 : (([] : List Int).getLast?.getD 0) = 0 := rfl
    rw [e0] at HMn
    rw [e1] at HMx
    have hlen : (([] : List Int).length) = 0 := rfl
    go_enter Tryd.func10, Tryd.ntmps10
    go_wp2_with fail
    refine (HNx.out _ (below1 _ _)).mono ?_
    rintro e w1 ⟨rfl, hb1⟩
    have HB1 := Lib.hid ((below1 w _).trans (hb1.mono (by simp)))
    have HX := Lib.hid (HX0.out.below hb1)
    clear hb1 HX0
    go_wp2_with fail
    refine (HRn.out _ HB1.out).mono ?_
    rintro e w2 ⟨rfl, rfl⟩
    obtain ⟨-, x0, x1, x2⟩ := HX.out.at3
    go_wp2_with fail
    refine (HPv.out _ HB1.out).mono ?_
    rintro e w2 ⟨rfl, hb2⟩
    have HB2 := Lib.hid (HB1.out.trans (hb2.mono HB1.out.size))
    have HX2 := Lib.hid (HX.out.below hb2)
    clear hb2 HX HB1 x0 x1 x2
    go_wp2_with fail
    refine (HRp.out _ HB2.out).mono ?_
    rintro e w3 ⟨rfl, rfl⟩
    obtain ⟨-, x0, x1, x2⟩ := HX2.out.at3
    go_wp2_with fail
    refine (HSz.out _ HB2.out).mono ?_
    rintro e w3 ⟨rfl, hb3⟩
    have HB3 := Lib.hid (HB2.out.trans (hb3.mono HB2.out.size))
    have HX3 := Lib.hid (HX2.out.below hb3)
    clear hb3 HX2 HB2 x0 x1 x2
    obtain ⟨-, x0, x1, x2⟩ := HX3.out.at3
    go_wp2_with fail
    refine (HMn.out _ HB3.out).mono ?_
    rintro e w4 ⟨rfl, hb4⟩
    have HB4 := Lib.hid (HB3.out.trans (hb4.mono HB3.out.size))
    have HX4 := Lib.hid (HX3.out.below hb4)
    clear hb4 HX3 HB3 x0 x1 x2
    obtain ⟨-, x0, x1, x2⟩ := HX4.out.at3
    go_wp2_with fail
    refine (HMx.out _ HB4.out).mono ?_
    rintro e w5 ⟨rfl, hb5⟩
    have HB5 := Lib.hid (HB4.out.trans (hb5.mono HB4.out.size))
    have HX5 := Lib.hid (HX4.out.below hb5)
    clear hb5 HX4 HB4 x0 x1 x2
    obtain ⟨-, x0, x1, x2⟩ := HX5.out.at3
    go_wp2_with fail
    refine (list_parts _ _ _ HX5.out.dom (hT.below HB5.out)).mono ?_
    rintro e w6 ⟨A6, k6, rfl, hl6, -, hb6⟩
    have HB6 := Lib.hid (HB5.out.trans (hb6.mono HB5.out.size))
    have HX6 := Lib.hid (HX5.out.below hb6)
    have HL6 := Lib.hid hl6
    clear hb6 HX5 HB5 x0 x1 x2 hl6
    go_wp2_with fail
    refine (HEq.out _ _ _ HL6.out HB6.out).mono ?_
    rintro e w7 ⟨rfl, hb7⟩
    have HB7 := Lib.hid (HB6.out.trans (hb7.mono HB6.out.size))
    have HX7 := Lib.hid (HX6.out.below hb7)
    clear hb7 HX6 HB6 HL6
    obtain ⟨-, x0, x1, x2⟩ := HX7.out.at3
    go_wp2_with fail
    refine (HHs.out _ HB7.out).mono ?_
    rintro e w8 ⟨rfl, hb8⟩
    have HB8 := Lib.hid (HB7.out.trans (hb8.mono HB7.out.size))
    clear hb8 HX7 HB7 x0 x1 x2
    go_wp2_with fail
    refine (HRh.out _ HB8.out).mono ?_
    rintro e w9 ⟨rfl, rfl⟩
    go_wp2_with fail
    go_ret
    exact ⟨rfl, HB8.out⟩
end Go.Proofs.YtgfhnmlakjcfaaaDoor
