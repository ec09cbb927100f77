/- Contract of the law's own wakes: it is true. Condition: the table of math/bits is laid as its text says. -/
import Derived.Test.YtgfhnmlakjcfaaaDoorNear
namespace Go.Proofs.YtgfhnmlakjcfaaaDoor
open Go.RowKit

/-- Three cells of one block. -/
def At3 (W : World) (g : Nat) (a b c : Value) : Prop := g < W.heap.size ∧ W.cell? ⟨g, 0, none⟩ = some a ∧ W.cell? ⟨g, 1, none⟩ = some b ∧ W.cell? ⟨g, 2, none⟩ = some c
theorem At3.below {W W' : World} {g : Nat} {a b c : Value} (h : At3 W g a b c) (hb : Below W.heap.size W W') : At3 W' g a b c :=
  ⟨Nat.lt_of_lt_of_le h.1 hb.size, (hb.cell h.1).trans h.2.1, (hb.cell h.1).trans h.2.2.1, (hb.cell h.1).trans h.2.2.2⟩
theorem At3.new (W : World) (a b c : Value) (t : TypeId) : At3 (W.alloc (.cells #[a, b, c] t)) W.heap.size a b c := ⟨by simp, by simp, by simp, by simp⟩

theorem wakes_ofL : ofL [3, 1, 3] = [1, 3] := by decide +kernel
theorem wakes_ofE : ofErr [3, 1, 3] = 0 := by decide +kernel
theorem wakes_f : ([1, 3] : List Int).filter (fun u => decide (u ≠ 3)) = [1] := by decide +kernel
theorem wakes_c : chg [1, 3] [1] = 3 := by decide +kernel
theorem wakes_r : rangeErr 5 4 = 4 := by decide +kernel
theorem wakes_r2 : rangeErr (-3) 70 = 0 := by decide +kernel
theorem wakes_l : (rangeL (-3) 70).length = 74 := by decide +kernel
theorem wakes_h : decide ((-3 : Int) ∈ rangeL (-3) 70) = true := by decide +kernel
theorem wakes_n : decide ((71 : Int) ∈ rangeL (-3) 70) = false := by decide +kernel

theorem ints3 (w : World) : Lies (w.alloc (.cells #[.int .i64 3, .int .i64 1, .int .i64 3] 3)) (some ⟨w.heap.size, 0, none⟩) 3 (i64f [3, 1, 3]) := by
  intro _
  refine ⟨_, rfl, by simp, fun j hj => ?_⟩
  match j, hj with
  | 0, _ => simp [Addr.add, i64f]
  | 1, _ => simp [Addr.add, i64f]
  | 2, _ => simp [Addr.add, i64f]

theorem ints1 (w : World) (z : Int) : Lies (w.alloc (.cells #[.int .i64 z] 3)) (some ⟨w.heap.size, 0, none⟩) 1 (i64f [z]) := by
  intro _
  refine ⟨_, rfl, by simp, fun j hj => ?_⟩
  match j, hj with
  | 0, _ => simp [Addr.add, i64f]

set_option maxHeartbeats 2000000 in
set_option maxRecDepth 100000 in
theorem wakes_true (w : World) (hT : Tab w) : Calls Tryd.prog 17 #[] w fun e w' => e = .returned (.bool true) ∧ Below w.heap.size w w' := by
  have O := of_dom (some ⟨w.heap.size, 0, none⟩) [3, 1, 3] 3 (w.alloc (.cells #[.int .i64 3, .int .i64 1, .int .i64 3] 3)) (ints3 w) (by decide)
  rw [wakes_ofL, wakes_ofE] at O
  go_enter Tryd.func17, Tryd.ntmps17
  go_wp2_with (go_at_call 8; refine O.mono ?_; rintro e w1 ⟨d1, rfl, ⟨s1, A1, ws1, c1, rfl, q1, q2, q3⟩, hb1⟩; have hd1 : IsDom w1 (.agg #[.int .i64 s1, .slice A1 ws1.length c1, .int .i64 2]) [1, 3] := ⟨s1, A1, ws1, c1, rfl, q1, q2, q3⟩; have HB1 := Lib.hid ((below1 w _).trans (hb1.mono (by simp))); have HD1 := Lib.hid hd1; clear q1 q2 q3 hb1 hd1 O)
  have o1 := below1 w1 (.cells #[.int .i64 s1, .slice A1 ws1.length c1, .int .i64 2] 27)
  have M := without_dom _ _ 3 _ (HD1.out.below o1) ((hT.below HB1.out).below o1)
  rw [wakes_f, wakes_c] at M
  refine M.mono ?_
  clear M
  rintro e w2 ⟨d2, rfl, ⟨s2, A2, ws2, c2, rfl, q1, q2, q3⟩, hb2⟩
  have HD2 : Hid (IsDom w2 (.agg #[.int .i64 s2, .slice A2 ws2.length c2, .int .i64 1]) [1]) := ⟨s2, A2, ws2, c2, rfl, q1, q2, q3⟩
  have b2 := o1.trans (hb2.mono o1.size)
  have HB2 := Lib.hid (HB1.out.trans (b2.mono HB1.out.size))
  have HX1 := Lib.hid ((At3.new w1 (.int .i64 s1) (.slice A1 ws1.length c1) (.int .i64 2) 27).below hb2)
  have HD1' := Lib.hid (HD1.out.below b2)
  clear q1 q2 q3 hb2 o1 b2 HD1
  go_wp2_with fail
  have o2 := below1 w2 (.cells #[.int .i64 s2, .slice A2 ws2.length c2, .int .i64 1] 27)
  have M := range_dom 5 4 (w2.alloc (.cells #[.int .i64 s2, .slice A2 ws2.length c2, .int .i64 1] 27))
  rw [wakes_r, if_neg (by decide)] at M
  refine M.mono ?_
  clear M
  rintro e w3 ⟨d3, rfl, ⟨s3, A3, ws3, c3, rfl, q1, q2, q3⟩, hb3⟩
  have b3 := o2.trans (hb3.mono o2.size)
  have HB3 := Lib.hid (HB2.out.trans (b3.mono HB2.out.size))
  have HX1 := Lib.hid (HX1.out.below b3)
  have HX2 := Lib.hid ((At3.new w2 (.int .i64 s2) (.slice A2 ws2.length c2) (.int .i64 1) 27).below hb3)
  have HD1' := Lib.hid (HD1'.out.below b3)
  have HD2 := Lib.hid (HD2.out.below b3)
  clear q1 q2 q3 hb3 o2 b3
  go_wp2_with fail
  have o3 := below1 w3 (.cells #[.int .i64 s3, .slice A3 ws3.length c3, .int .i64 0] 27)
  have M := range_dom (-3) 70 (w3.alloc (.cells #[.int .i64 s3, .slice A3 ws3.length c3, .int .i64 0] 27))
  rw [wakes_r2, if_pos rfl] at M
  refine M.mono ?_
  clear M
  rintro e w4 ⟨d4, rfl, hd4, hb4⟩
  obtain ⟨s4, A4, ws4, c4, e4, q1, q2, q3⟩ := id hd4
  rw [wakes_l] at e4
  change d4 = .agg #[.int .i64 s4, .slice A4 ws4.length c4, .int .i64 74] at e4
  subst e4
  have b4 := o3.trans (hb4.mono o3.size)
  have HB4 := Lib.hid (HB3.out.trans (b4.mono HB3.out.size))
  have o4 := below1 w4 (.cells #[.int .i64 s4, .slice A4 ws4.length c4, .int .i64 74] 27)
  have b5 := b4.trans (o4.mono b4.size)
  have HB5 := Lib.hid (HB4.out.trans (o4.mono HB4.out.size))
  have HX1 := Lib.hid (HX1.out.below b5)
  have HX2 := Lib.hid (HX2.out.below b5)
  have HX4 := Lib.hid (At3.new w4 (.int .i64 s4) (.slice A4 ws4.length c4) (.int .i64 74) 27)
  have HD1' := Lib.hid (HD1'.out.below b5)
  have HD2 := Lib.hid (HD2.out.below b5)
  have HD4 := Lib.hid (hd4.below o4)
  obtain ⟨-, x0, x1, x2⟩ := HX1.out
  clear q1 q2 q3 hb4 o3 b4 o4 b5 hd4
  go_wp2_with fail
  refine (size_dom _ _ _ HD1'.out).mono ?_
  rintro e w5 ⟨rfl, hb5⟩
  have HB6 := Lib.hid (HB5.out.trans (hb5.mono HB5.out.size))
  have HX2 := Lib.hid (HX2.out.below hb5)
  have HX4 := Lib.hid (HX4.out.below hb5)
  have HD2 := Lib.hid (HD2.out.below hb5)
  have HD4 := Lib.hid (HD4.out.below hb5)
  obtain ⟨-, x0, x1, x2⟩ := HX2.out
  clear hb5
  go_wp2_with fail
  refine (list_dom _ _ _ HD2.out (hT.below HB6.out)).mono ?_
  rintro e w6 ⟨v6, rfl, hown6, hb6⟩
  obtain ⟨A6, c6, e6, hl6, -⟩ := own_lies hown6
  subst e6
  have o6 := below1 w6 (.cells #[.int .i64 1] 3)
  have b6 := hb6.trans (o6.mono hb6.size)
  have HB7 := Lib.hid (HB6.out.trans (b6.mono HB6.out.size))
  have HX4 := Lib.hid (HX4.out.below b6)
  have HD4 := Lib.hid (HD4.out.below b6)
  have E := equal_i A6 (some ⟨w6.heap.size, 0, none⟩) [1] [1] c6 1 (w6.alloc (.cells #[.int .i64 1] 3)) (hl6.below o6) (ints1 w6 1) (by decide) (by decide)
  have HE := Lib.hid E
  clear hown6 hl6 hb6 o6 b6 E
  go_wp2_with fail
  refine HE.out.mono ?_
  rintro e w7 ⟨rfl, hb7⟩
  have HB8 := Lib.hid (HB7.out.trans (hb7.mono HB7.out.size))
  have HX4 := Lib.hid (HX4.out.below hb7)
  have HD4 := Lib.hid (HD4.out.below hb7)
  obtain ⟨-, y0, y1, y2⟩ := HX4.out
  clear hb7
  go_wp2_with fail
  refine (size_dom _ _ _ HD4.out).mono ?_
  rw [wakes_l]
  rintro e w8 ⟨rfl, hb8⟩
  have HB9 := Lib.hid (HB8.out.trans (hb8.mono HB8.out.size))
  have HX4 := Lib.hid (HX4.out.below hb8)
  have HD4 := Lib.hid (HD4.out.below hb8)
  obtain ⟨-, y0, y1, y2⟩ := HX4.out
  clear hb8
  go_wp2_with fail
  refine (has_dom _ _ (-3) _ HD4.out (by decide) (by decide)).mono ?_
  rw [wakes_h]
  rintro e w9 ⟨rfl, hb9⟩
  have HB10 := Lib.hid (HB9.out.trans (hb9.mono HB9.out.size))
  have HX4 := Lib.hid (HX4.out.below hb9)
  have HD4 := Lib.hid (HD4.out.below hb9)
  obtain ⟨-, y0, y1, y2⟩ := HX4.out
  clear hb9
  go_wp2_with fail
  refine (has_dom _ _ 71 _ HD4.out (by decide) (by decide)).mono ?_
  rw [wakes_n]
  rintro e w10 ⟨rfl, hb10⟩
  go_wp2
  go_ret
  exact ⟨rfl, HB10.out.trans (hb10.mono HB10.out.size)⟩
end Go.Proofs.YtgfhnmlakjcfaaaDoor
