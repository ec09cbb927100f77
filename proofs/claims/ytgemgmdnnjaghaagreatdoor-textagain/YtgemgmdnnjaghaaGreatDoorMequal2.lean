/- Contracts: equalCons, slices.EqualFunc over constraints, Equal. -/
import Derived.Test.YtgemgmdnnjaghaaGreatDoorMequal
namespace Go.Proofs.YtgemgmdnnjaghaaGreatDoor
open Go.RowKit Go.Sort Go.Maps

theorem boxes8 {w W : World} {x y : ConV} {k1 kk1 k2 kk2 : Int} {t : TypeId} (h : Below (w.heap.size + 2) ((w.alloc (.cells (x.cells k1 kk1) t)).alloc (.cells (y.cells k2 kk2) t)) W) :
    (W.cell? ⟨w.heap.size, 0, none⟩ = some (.int .i64 k1) ∧ W.cell? ⟨w.heap.size, 1, none⟩ = some (.slice x.a.A x.a.n x.a.c) ∧ W.cell? ⟨w.heap.size, 2, none⟩ = some (.slice x.b.A x.b.n x.b.c) ∧ W.cell? ⟨w.heap.size, 3, none⟩ = some (.slice x.c.A x.c.n x.c.c) ∧ W.cell? ⟨w.heap.size, 4, none⟩ = some (.slice x.d.A x.d.n x.d.c) ∧ W.cell? ⟨w.heap.size, 5, none⟩ = some (.slice x.e.A x.e.n x.e.c) ∧ W.cell? ⟨w.heap.size, 6, none⟩ = some (.int .i64 kk1) ∧ W.cell? ⟨w.heap.size, 7, none⟩ = some (.slice x.r.A x.r.n x.r.c)) ∧
    (W.cell? ⟨w.heap.size + 1, 0, none⟩ = some (.int .i64 k2) ∧ W.cell? ⟨w.heap.size + 1, 1, none⟩ = some (.slice y.a.A y.a.n y.a.c) ∧ W.cell? ⟨w.heap.size + 1, 2, none⟩ = some (.slice y.b.A y.b.n y.b.c) ∧ W.cell? ⟨w.heap.size + 1, 3, none⟩ = some (.slice y.c.A y.c.n y.c.c) ∧ W.cell? ⟨w.heap.size + 1, 4, none⟩ = some (.slice y.d.A y.d.n y.d.c) ∧ W.cell? ⟨w.heap.size + 1, 5, none⟩ = some (.slice y.e.A y.e.n y.e.c) ∧ W.cell? ⟨w.heap.size + 1, 6, none⟩ = some (.int .i64 kk2) ∧ W.cell? ⟨w.heap.size + 1, 7, none⟩ = some (.slice y.r.A y.r.n y.r.c)) := by
  refine ⟨⟨?_, ?_, ?_, ?_, ?_, ?_, ?_, ?_⟩, ⟨?_, ?_, ?_, ?_, ?_, ?_, ?_, ?_⟩⟩ <;> rw [h.cell (by simp)] <;> simp
theorem of_boxes {w W : World} {o1 o2 : Obj} (h : Below (w.heap.size + 2) ((w.alloc o1).alloc o2) W) : Below w.heap.size w W := ((below1 w o1).trans ((below1 _ o2).mono (by simp))).trans (h.mono (by omega))
theorem boxes_start (w : World) (o1 o2 : Obj) : Below (w.heap.size + 2) ((w.alloc o1).alloc o2) ((w.alloc o1).alloc o2) := Below.refl _ _

set_option maxHeartbeats 8000000 in
set_option maxRecDepth 100000 in
theorem equalCons_any (x y : ConV) (a b : ConL) (w : World) (hx : ConIn w x a) (hy : ConIn w y b) : Calls Tryz.prog 43 #[x.val a.kind a.K, y.val b.kind b.K] w fun e w' => e = .returned (.bool (eqCon a b)) ∧ Below w.heap.size w w' := by
  have CA : Hid (∀ W, Below w.heap.size w W → Calls Tryz.prog 77 #[.slice x.a.A x.a.n x.a.c, .slice y.a.A y.a.n y.a.c] W fun e w' => e = .returned (.bool (a.A == b.A)) ∧ Below W.heap.size W w') := Lib.hid (fun W hW => equal_ints x.a y.a a.A b.A W (hx.a.below hW) (hy.a.below hW))
  have CB : Hid (∀ W, Below w.heap.size w W → Calls Tryz.prog 77 #[.slice x.b.A x.b.n x.b.c, .slice y.b.A y.b.n y.b.c] W fun e w' => e = .returned (.bool (a.B == b.B)) ∧ Below W.heap.size W w') := Lib.hid (fun W hW => equal_ints x.b y.b a.B b.B W (hx.b.below hW) (hy.b.below hW))
  have CC : Hid (∀ W, Below w.heap.size w W → Calls Tryz.prog 77 #[.slice x.c.A x.c.n x.c.c, .slice y.c.A y.c.n y.c.c] W fun e w' => e = .returned (.bool (a.C == b.C)) ∧ Below W.heap.size W w') := Lib.hid (fun W hW => equal_ints x.c y.c a.C b.C W (hx.c.below hW) (hy.c.below hW))
  have CD : Hid (∀ W, Below w.heap.size w W → Calls Tryz.prog 77 #[.slice x.d.A x.d.n x.d.c, .slice y.d.A y.d.n y.d.c] W fun e w' => e = .returned (.bool (a.D == b.D)) ∧ Below W.heap.size W w') := Lib.hid (fun W hW => equal_ints x.d y.d a.D b.D W (hx.d.below hW) (hy.d.below hW))
  have CE : Hid (∀ W, Below w.heap.size w W → Calls Tryz.prog 77 #[.slice x.e.A x.e.n x.e.c, .slice y.e.A y.e.n y.e.c] W fun e w' => e = .returned (.bool (a.E == b.E)) ∧ Below W.heap.size W w') := Lib.hid (fun W hW => equal_ints x.e y.e a.E b.E W (hx.e.below hW) (hy.e.below hW))
  have CR : Hid (∀ W, Below w.heap.size w W → Calls Tryz.prog 41 #[.slice x.r.A x.r.n x.r.c, .slice y.r.A y.r.n y.r.c] W fun e w' => e = .returned (.bool (a.rows == b.rows)) ∧ Below W.heap.size W w') := Lib.hid (fun W hW => equalLists_any x.r y.r a.rows b.rows W (hx.r.below hW) (hy.r.below hW))
  have HRES : Hid (eqCon a b = (a.kind == b.kind && a.K == b.K && a.A == b.A && a.B == b.B && a.C == b.C && a.D == b.D && a.E == b.E && a.rows == b.rows)) := Lib.hid rfl
  generalize eqCon a b = RES at HRES ⊢
  generalize (a.A == b.A) = tA at HRES CA
  generalize (a.B == b.B) = tB at HRES CB
  generalize (a.C == b.C) = tC at HRES CC
  generalize (a.D == b.D) = tD at HRES CD
  generalize (a.E == b.E) = tE at HRES CE
  generalize (a.rows == b.rows) = tR at HRES CR
  generalize a.kind = k1 at *
  generalize b.kind = k2 at *
  generalize a.K = kk1 at *
  generalize b.K = kk2 at *
  clear hx hy
  cases h1 : (k1 == k2)
  · go_enter Tryz.func43, Tryz.ntmps43
    go_wp2_with fail
    go_ret
    exact ⟨ret_bool (by rw [HRES.out, h1]; first | rfl | trivial | simp), (below1 w _).trans ((below1 _ _).mono (by simp))⟩
  · cases h2 : (kk1 == kk2)
    · go_enter Tryz.func43, Tryz.ntmps43
      go_wp2_with fail
      go_ret
      exact ⟨ret_bool (by rw [HRES.out, h1, h2]; first | rfl | trivial | simp), (below1 w _).trans ((below1 _ _).mono (by simp))⟩
    · cases tA
      · go_enter Tryz.func43, Tryz.ntmps43
        go_wp2_with fail
        refine (CA.out _ ((below1 w _).trans ((below1 _ _).mono (by simp)))).mono ?_
        rintro e w1 ⟨rfl, b1⟩
        have Bw1 : Hid (Below (w.heap.size + 2) ((w.alloc (.cells (x.cells k1 kk1) 37)).alloc (.cells (y.cells k2 kk2) 37)) w1) := Lib.hid (b1.mono (by simp))
        clear b1
        obtain ⟨⟨c0, c1, c2, c3, c4, c5, c6, c7⟩, ⟨d0, d1, d2, d3, d4, d5, d6, d7⟩⟩ := boxes8 Bw1.out
        go_wp2_with fail
        go_ret
        exact ⟨ret_bool (by rw [HRES.out, h1, h2]; first | rfl | trivial | simp), of_boxes Bw1.out⟩
      · cases tB
        · go_enter Tryz.func43, Tryz.ntmps43
          go_wp2_with fail
          refine (CA.out _ ((below1 w _).trans ((below1 _ _).mono (by simp)))).mono ?_
          rintro e w1 ⟨rfl, b1⟩
          have Bw1 : Hid (Below (w.heap.size + 2) ((w.alloc (.cells (x.cells k1 kk1) 37)).alloc (.cells (y.cells k2 kk2) 37)) w1) := Lib.hid (b1.mono (by simp))
          clear b1
          obtain ⟨⟨c0, c1, c2, c3, c4, c5, c6, c7⟩, ⟨d0, d1, d2, d3, d4, d5, d6, d7⟩⟩ := boxes8 Bw1.out
          go_wp2_with fail
          refine (CB.out _ (of_boxes Bw1.out)).mono ?_
          rintro e w2 ⟨rfl, b1⟩
          have Bw2 : Hid (Below (w.heap.size + 2) ((w.alloc (.cells (x.cells k1 kk1) 37)).alloc (.cells (y.cells k2 kk2) 37)) w2) := Lib.hid (Bw1.out.trans (b1.mono (by have := Bw1.out.size; simpa using this)))
          clear b1 c0 c1 c2 c3 c4 c5 c6 c7 d0 d1 d2 d3 d4 d5 d6 d7
          obtain ⟨⟨c0, c1, c2, c3, c4, c5, c6, c7⟩, ⟨d0, d1, d2, d3, d4, d5, d6, d7⟩⟩ := boxes8 Bw2.out
          go_wp2_with fail
          go_ret
          exact ⟨ret_bool (by rw [HRES.out, h1, h2]; first | rfl | trivial | simp), of_boxes Bw2.out⟩
        · cases tC
          · go_enter Tryz.func43, Tryz.ntmps43
            go_wp2_with fail
            refine (CA.out _ ((below1 w _).trans ((below1 _ _).mono (by simp)))).mono ?_
            rintro e w1 ⟨rfl, b1⟩
            have Bw1 : Hid (Below (w.heap.size + 2) ((w.alloc (.cells (x.cells k1 kk1) 37)).alloc (.cells (y.cells k2 kk2) 37)) w1) := Lib.hid (b1.mono (by simp))
            clear b1
            obtain ⟨⟨c0, c1, c2, c3, c4, c5, c6, c7⟩, ⟨d0, d1, d2, d3, d4, d5, d6, d7⟩⟩ := boxes8 Bw1.out
            go_wp2_with fail
            refine (CB.out _ (of_boxes Bw1.out)).mono ?_
            rintro e w2 ⟨rfl, b1⟩
            have Bw2 : Hid (Below (w.heap.size + 2) ((w.alloc (.cells (x.cells k1 kk1) 37)).alloc (.cells (y.cells k2 kk2) 37)) w2) := Lib.hid (Bw1.out.trans (b1.mono (by have := Bw1.out.size; simpa using this)))
            clear b1 c0 c1 c2 c3 c4 c5 c6 c7 d0 d1 d2 d3 d4 d5 d6 d7
            obtain ⟨⟨c0, c1, c2, c3, c4, c5, c6, c7⟩, ⟨d0, d1, d2, d3, d4, d5, d6, d7⟩⟩ := boxes8 Bw2.out
            go_wp2_with fail
            refine (CC.out _ (of_boxes Bw2.out)).mono ?_
            rintro e w3 ⟨rfl, b1⟩
            have Bw3 : Hid (Below (w.heap.size + 2) ((w.alloc (.cells (x.cells k1 kk1) 37)).alloc (.cells (y.cells k2 kk2) 37)) w3) := Lib.hid (Bw2.out.trans (b1.mono (by have := Bw2.out.size; simpa using this)))
            clear b1 c0 c1 c2 c3 c4 c5 c6 c7 d0 d1 d2 d3 d4 d5 d6 d7
            obtain ⟨⟨c0, c1, c2, c3, c4, c5, c6, c7⟩, ⟨d0, d1, d2, d3, d4, d5, d6, d7⟩⟩ := boxes8 Bw3.out
            go_wp2_with fail
            go_ret
            exact ⟨ret_bool (by rw [HRES.out, h1, h2]; first | rfl | trivial | simp), of_boxes Bw3.out⟩
          · cases tD
            · go_enter Tryz.func43, Tryz.ntmps43
              go_wp2_with fail
              refine (CA.out _ ((below1 w _).trans ((below1 _ _).mono (by simp)))).mono ?_
              rintro e w1 ⟨rfl, b1⟩
              have Bw1 : Hid (Below (w.heap.size + 2) ((w.alloc (.cells (x.cells k1 kk1) 37)).alloc (.cells (y.cells k2 kk2) 37)) w1) := Lib.hid (b1.mono (by simp))
              clear b1
              obtain ⟨⟨c0, c1, c2, c3, c4, c5, c6, c7⟩, ⟨d0, d1, d2, d3, d4, d5, d6, d7⟩⟩ := boxes8 Bw1.out
              go_wp2_with fail
              refine (CB.out _ (of_boxes Bw1.out)).mono ?_
              rintro e w2 ⟨rfl, b1⟩
              have Bw2 : Hid (Below (w.heap.size + 2) ((w.alloc (.cells (x.cells k1 kk1) 37)).alloc (.cells (y.cells k2 kk2) 37)) w2) := Lib.hid (Bw1.out.trans (b1.mono (by have := Bw1.out.size; simpa using this)))
              clear b1 c0 c1 c2 c3 c4 c5 c6 c7 d0 d1 d2 d3 d4 d5 d6 d7
              obtain ⟨⟨c0, c1, c2, c3, c4, c5, c6, c7⟩, ⟨d0, d1, d2, d3, d4, d5, d6, d7⟩⟩ := boxes8 Bw2.out
              go_wp2_with fail
              refine (CC.out _ (of_boxes Bw2.out)).mono ?_
              rintro e w3 ⟨rfl, b1⟩
              have Bw3 : Hid (Below (w.heap.size + 2) ((w.alloc (.cells (x.cells k1 kk1) 37)).alloc (.cells (y.cells k2 kk2) 37)) w3) := Lib.hid (Bw2.out.trans (b1.mono (by have := Bw2.out.size; simpa using this)))
              clear b1 c0 c1 c2 c3 c4 c5 c6 c7 d0 d1 d2 d3 d4 d5 d6 d7
              obtain ⟨⟨c0, c1, c2, c3, c4, c5, c6, c7⟩, ⟨d0, d1, d2, d3, d4, d5, d6, d7⟩⟩ := boxes8 Bw3.out
              go_wp2_with fail
              refine (CD.out _ (of_boxes Bw3.out)).mono ?_
              rintro e w4 ⟨rfl, b1⟩
              have Bw4 : Hid (Below (w.heap.size + 2) ((w.alloc (.cells (x.cells k1 kk1) 37)).alloc (.cells (y.cells k2 kk2) 37)) w4) := Lib.hid (Bw3.out.trans (b1.mono (by have := Bw3.out.size; simpa using this)))
              clear b1 c0 c1 c2 c3 c4 c5 c6 c7 d0 d1 d2 d3 d4 d5 d6 d7
              obtain ⟨⟨c0, c1, c2, c3, c4, c5, c6, c7⟩, ⟨d0, d1, d2, d3, d4, d5, d6, d7⟩⟩ := boxes8 Bw4.out
              go_wp2_with fail
              go_ret
              exact ⟨ret_bool (by rw [HRES.out, h1, h2]; first | rfl | trivial | simp), of_boxes Bw4.out⟩
            · cases tE
              · go_enter Tryz.func43, Tryz.ntmps43
                go_wp2_with fail
                refine (CA.out _ ((below1 w _).trans ((below1 _ _).mono (by simp)))).mono ?_
                rintro e w1 ⟨rfl, b1⟩
                have Bw1 : Hid (Below (w.heap.size + 2) ((w.alloc (.cells (x.cells k1 kk1) 37)).alloc (.cells (y.cells k2 kk2) 37)) w1) := Lib.hid (b1.mono (by simp))
                clear b1
                obtain ⟨⟨c0, c1, c2, c3, c4, c5, c6, c7⟩, ⟨d0, d1, d2, d3, d4, d5, d6, d7⟩⟩ := boxes8 Bw1.out
                go_wp2_with fail
                refine (CB.out _ (of_boxes Bw1.out)).mono ?_
                rintro e w2 ⟨rfl, b1⟩
                have Bw2 : Hid (Below (w.heap.size + 2) ((w.alloc (.cells (x.cells k1 kk1) 37)).alloc (.cells (y.cells k2 kk2) 37)) w2) := Lib.hid (Bw1.out.trans (b1.mono (by have := Bw1.out.size; simpa using this)))
                clear b1 c0 c1 c2 c3 c4 c5 c6 c7 d0 d1 d2 d3 d4 d5 d6 d7
                obtain ⟨⟨c0, c1, c2, c3, c4, c5, c6, c7⟩, ⟨d0, d1, d2, d3, d4, d5, d6, d7⟩⟩ := boxes8 Bw2.out
                go_wp2_with fail
                refine (CC.out _ (of_boxes Bw2.out)).mono ?_
                rintro e w3 ⟨rfl, b1⟩
                have Bw3 : Hid (Below (w.heap.size + 2) ((w.alloc (.cells (x.cells k1 kk1) 37)).alloc (.cells (y.cells k2 kk2) 37)) w3) := Lib.hid (Bw2.out.trans (b1.mono (by have := Bw2.out.size; simpa using this)))
                clear b1 c0 c1 c2 c3 c4 c5 c6 c7 d0 d1 d2 d3 d4 d5 d6 d7
                obtain ⟨⟨c0, c1, c2, c3, c4, c5, c6, c7⟩, ⟨d0, d1, d2, d3, d4, d5, d6, d7⟩⟩ := boxes8 Bw3.out
                go_wp2_with fail
                refine (CD.out _ (of_boxes Bw3.out)).mono ?_
                rintro e w4 ⟨rfl, b1⟩
                have Bw4 : Hid (Below (w.heap.size + 2) ((w.alloc (.cells (x.cells k1 kk1) 37)).alloc (.cells (y.cells k2 kk2) 37)) w4) := Lib.hid (Bw3.out.trans (b1.mono (by have := Bw3.out.size; simpa using this)))
                clear b1 c0 c1 c2 c3 c4 c5 c6 c7 d0 d1 d2 d3 d4 d5 d6 d7
                obtain ⟨⟨c0, c1, c2, c3, c4, c5, c6, c7⟩, ⟨d0, d1, d2, d3, d4, d5, d6, d7⟩⟩ := boxes8 Bw4.out
                go_wp2_with fail
                refine (CE.out _ (of_boxes Bw4.out)).mono ?_
                rintro e w5 ⟨rfl, b1⟩
                have Bw5 : Hid (Below (w.heap.size + 2) ((w.alloc (.cells (x.cells k1 kk1) 37)).alloc (.cells (y.cells k2 kk2) 37)) w5) := Lib.hid (Bw4.out.trans (b1.mono (by have := Bw4.out.size; simpa using this)))
                clear b1 c0 c1 c2 c3 c4 c5 c6 c7 d0 d1 d2 d3 d4 d5 d6 d7
                obtain ⟨⟨c0, c1, c2, c3, c4, c5, c6, c7⟩, ⟨d0, d1, d2, d3, d4, d5, d6, d7⟩⟩ := boxes8 Bw5.out
                go_wp2_with fail
                go_ret
                exact ⟨ret_bool (by rw [HRES.out, h1, h2]; first | rfl | trivial | simp), of_boxes Bw5.out⟩
              · cases tR
                · go_enter Tryz.func43, Tryz.ntmps43
                  go_wp2_with fail
                  refine (CA.out _ ((below1 w _).trans ((below1 _ _).mono (by simp)))).mono ?_
                  rintro e w1 ⟨rfl, b1⟩
                  have Bw1 : Hid (Below (w.heap.size + 2) ((w.alloc (.cells (x.cells k1 kk1) 37)).alloc (.cells (y.cells k2 kk2) 37)) w1) := Lib.hid (b1.mono (by simp))
                  clear b1
                  obtain ⟨⟨c0, c1, c2, c3, c4, c5, c6, c7⟩, ⟨d0, d1, d2, d3, d4, d5, d6, d7⟩⟩ := boxes8 Bw1.out
                  go_wp2_with fail
                  refine (CB.out _ (of_boxes Bw1.out)).mono ?_
                  rintro e w2 ⟨rfl, b1⟩
                  have Bw2 : Hid (Below (w.heap.size + 2) ((w.alloc (.cells (x.cells k1 kk1) 37)).alloc (.cells (y.cells k2 kk2) 37)) w2) := Lib.hid (Bw1.out.trans (b1.mono (by have := Bw1.out.size; simpa using this)))
                  clear b1 c0 c1 c2 c3 c4 c5 c6 c7 d0 d1 d2 d3 d4 d5 d6 d7
                  obtain ⟨⟨c0, c1, c2, c3, c4, c5, c6, c7⟩, ⟨d0, d1, d2, d3, d4, d5, d6, d7⟩⟩ := boxes8 Bw2.out
                  go_wp2_with fail
                  refine (CC.out _ (of_boxes Bw2.out)).mono ?_
                  rintro e w3 ⟨rfl, b1⟩
                  have Bw3 : Hid (Below (w.heap.size + 2) ((w.alloc (.cells (x.cells k1 kk1) 37)).alloc (.cells (y.cells k2 kk2) 37)) w3) := Lib.hid (Bw2.out.trans (b1.mono (by have := Bw2.out.size; simpa using this)))
                  clear b1 c0 c1 c2 c3 c4 c5 c6 c7 d0 d1 d2 d3 d4 d5 d6 d7
                  obtain ⟨⟨c0, c1, c2, c3, c4, c5, c6, c7⟩, ⟨d0, d1, d2, d3, d4, d5, d6, d7⟩⟩ := boxes8 Bw3.out
                  go_wp2_with fail
                  refine (CD.out _ (of_boxes Bw3.out)).mono ?_
                  rintro e w4 ⟨rfl, b1⟩
                  have Bw4 : Hid (Below (w.heap.size + 2) ((w.alloc (.cells (x.cells k1 kk1) 37)).alloc (.cells (y.cells k2 kk2) 37)) w4) := Lib.hid (Bw3.out.trans (b1.mono (by have := Bw3.out.size; simpa using this)))
                  clear b1 c0 c1 c2 c3 c4 c5 c6 c7 d0 d1 d2 d3 d4 d5 d6 d7
                  obtain ⟨⟨c0, c1, c2, c3, c4, c5, c6, c7⟩, ⟨d0, d1, d2, d3, d4, d5, d6, d7⟩⟩ := boxes8 Bw4.out
                  go_wp2_with fail
                  refine (CE.out _ (of_boxes Bw4.out)).mono ?_
                  rintro e w5 ⟨rfl, b1⟩
                  have Bw5 : Hid (Below (w.heap.size + 2) ((w.alloc (.cells (x.cells k1 kk1) 37)).alloc (.cells (y.cells k2 kk2) 37)) w5) := Lib.hid (Bw4.out.trans (b1.mono (by have := Bw4.out.size; simpa using this)))
                  clear b1 c0 c1 c2 c3 c4 c5 c6 c7 d0 d1 d2 d3 d4 d5 d6 d7
                  obtain ⟨⟨c0, c1, c2, c3, c4, c5, c6, c7⟩, ⟨d0, d1, d2, d3, d4, d5, d6, d7⟩⟩ := boxes8 Bw5.out
                  go_wp2_with fail
                  refine (CR.out _ (of_boxes Bw5.out)).mono ?_
                  rintro e w6 ⟨rfl, b1⟩
                  have Bw6 : Hid (Below (w.heap.size + 2) ((w.alloc (.cells (x.cells k1 kk1) 37)).alloc (.cells (y.cells k2 kk2) 37)) w6) := Lib.hid (Bw5.out.trans (b1.mono (by have := Bw5.out.size; simpa using this)))
                  clear b1 c0 c1 c2 c3 c4 c5 c6 c7 d0 d1 d2 d3 d4 d5 d6 d7
                  obtain ⟨⟨c0, c1, c2, c3, c4, c5, c6, c7⟩, ⟨d0, d1, d2, d3, d4, d5, d6, d7⟩⟩ := boxes8 Bw6.out
                  go_wp2_with fail
                  go_ret
                  exact ⟨ret_bool (by rw [HRES.out, h1, h2]; first | rfl | trivial | simp), of_boxes Bw6.out⟩
                · go_enter Tryz.func43, Tryz.ntmps43
                  go_wp2_with fail
                  refine (CA.out _ ((below1 w _).trans ((below1 _ _).mono (by simp)))).mono ?_
                  rintro e w1 ⟨rfl, b1⟩
                  have Bw1 : Hid (Below (w.heap.size + 2) ((w.alloc (.cells (x.cells k1 kk1) 37)).alloc (.cells (y.cells k2 kk2) 37)) w1) := Lib.hid (b1.mono (by simp))
                  clear b1
                  obtain ⟨⟨c0, c1, c2, c3, c4, c5, c6, c7⟩, ⟨d0, d1, d2, d3, d4, d5, d6, d7⟩⟩ := boxes8 Bw1.out
                  go_wp2_with fail
                  refine (CB.out _ (of_boxes Bw1.out)).mono ?_
                  rintro e w2 ⟨rfl, b1⟩
                  have Bw2 : Hid (Below (w.heap.size + 2) ((w.alloc (.cells (x.cells k1 kk1) 37)).alloc (.cells (y.cells k2 kk2) 37)) w2) := Lib.hid (Bw1.out.trans (b1.mono (by have := Bw1.out.size; simpa using this)))
                  clear b1 c0 c1 c2 c3 c4 c5 c6 c7 d0 d1 d2 d3 d4 d5 d6 d7
                  obtain ⟨⟨c0, c1, c2, c3, c4, c5, c6, c7⟩, ⟨d0, d1, d2, d3, d4, d5, d6, d7⟩⟩ := boxes8 Bw2.out
                  go_wp2_with fail
                  refine (CC.out _ (of_boxes Bw2.out)).mono ?_
                  rintro e w3 ⟨rfl, b1⟩
                  have Bw3 : Hid (Below (w.heap.size + 2) ((w.alloc (.cells (x.cells k1 kk1) 37)).alloc (.cells (y.cells k2 kk2) 37)) w3) := Lib.hid (Bw2.out.trans (b1.mono (by have := Bw2.out.size; simpa using this)))
                  clear b1 c0 c1 c2 c3 c4 c5 c6 c7 d0 d1 d2 d3 d4 d5 d6 d7
                  obtain ⟨⟨c0, c1, c2, c3, c4, c5, c6, c7⟩, ⟨d0, d1, d2, d3, d4, d5, d6, d7⟩⟩ := boxes8 Bw3.out
                  go_wp2_with fail
                  refine (CD.out _ (of_boxes Bw3.out)).mono ?_
                  rintro e w4 ⟨rfl, b1⟩
                  have Bw4 : Hid (Below (w.heap.size + 2) ((w.alloc (.cells (x.cells k1 kk1) 37)).alloc (.cells (y.cells k2 kk2) 37)) w4) := Lib.hid (Bw3.out.trans (b1.mono (by have := Bw3.out.size; simpa using this)))
                  clear b1 c0 c1 c2 c3 c4 c5 c6 c7 d0 d1 d2 d3 d4 d5 d6 d7
                  obtain ⟨⟨c0, c1, c2, c3, c4, c5, c6, c7⟩, ⟨d0, d1, d2, d3, d4, d5, d6, d7⟩⟩ := boxes8 Bw4.out
                  go_wp2_with fail
                  refine (CE.out _ (of_boxes Bw4.out)).mono ?_
                  rintro e w5 ⟨rfl, b1⟩
                  have Bw5 : Hid (Below (w.heap.size + 2) ((w.alloc (.cells (x.cells k1 kk1) 37)).alloc (.cells (y.cells k2 kk2) 37)) w5) := Lib.hid (Bw4.out.trans (b1.mono (by have := Bw4.out.size; simpa using this)))
                  clear b1 c0 c1 c2 c3 c4 c5 c6 c7 d0 d1 d2 d3 d4 d5 d6 d7
                  obtain ⟨⟨c0, c1, c2, c3, c4, c5, c6, c7⟩, ⟨d0, d1, d2, d3, d4, d5, d6, d7⟩⟩ := boxes8 Bw5.out
                  go_wp2_with fail
                  refine (CR.out _ (of_boxes Bw5.out)).mono ?_
                  rintro e w6 ⟨rfl, b1⟩
                  have Bw6 : Hid (Below (w.heap.size + 2) ((w.alloc (.cells (x.cells k1 kk1) 37)).alloc (.cells (y.cells k2 kk2) 37)) w6) := Lib.hid (Bw5.out.trans (b1.mono (by have := Bw5.out.size; simpa using this)))
                  clear b1 c0 c1 c2 c3 c4 c5 c6 c7 d0 d1 d2 d3 d4 d5 d6 d7
                  obtain ⟨⟨c0, c1, c2, c3, c4, c5, c6, c7⟩, ⟨d0, d1, d2, d3, d4, d5, d6, d7⟩⟩ := boxes8 Bw6.out
                  go_wp2_with fail
                  go_ret
                  exact ⟨ret_bool (by rw [HRES.out, h1, h2]; first | rfl | trivial | simp), of_boxes Bw6.out⟩

def eqCons (L K : List ConL) : Bool := L.length == K.length && (List.range L.length).all fun i => eqCon (L.getD i noCon) (K.getD i noCon)
theorem eqCons_len {L K : List ConL} (h : L.length ≠ K.length) : eqCons L K = false := by
  unfold eqCons
  have : (L.length == K.length) = false := by simpa using h
  rw [this]
  rfl
theorem eqCons_no {L K : List ConL} {k : Nat} (hk : k < L.length) (h : eqCon (L.getD k noCon) (K.getD k noCon) = false) : eqCons L K = false := by
  unfold eqCons
  have : ((List.range L.length).all fun i => eqCon (L.getD i noCon) (K.getD i noCon)) = false := by
    rw [List.all_eq_false]
    exact ⟨k, List.mem_range.2 hk, by rw [h]; decide⟩
  rw [this, Bool.and_false]
theorem eqCons_yes {L K : List ConL} (hl : L.length = K.length) (h : ∀ j, j < L.length → eqCon (L.getD j noCon) (K.getD j noCon) = true) : eqCons L K = true := by
  unfold eqCons
  have h1 : (L.length == K.length) = true := by simpa using hl
  have h2 : ((List.range L.length).all fun i => eqCon (L.getD i noCon) (K.getD i noCon)) = true := by
    rw [List.all_eq_true]
    exact fun j hj => h j (List.mem_range.1 hj)
  rw [h1, h2]
  rfl
theorem eqCons_iff (L K : List ConL) : eqCons L K = true ↔ L = K := by
  constructor
  · intro h
    unfold eqCons at h
    simp only [Bool.and_eq_true, beq_iff_eq] at h
    apply List.ext_getElem h.1
    intro i h1 h2
    have := (eqCon_iff _ _).1 (List.all_eq_true.1 h.2 i (List.mem_range.2 h1))
    rw [List.getD_eq_getElem?_getD, List.getD_eq_getElem?_getD, List.getElem?_eq_getElem h1, List.getElem?_eq_getElem h2] at this
    exact this
  · rintro rfl
    exact eqCons_yes rfl (fun j _ => (eqCon_iff _ _).2 rfl)

set_option maxHeartbeats 4000000 in
set_option maxRecDepth 100000 in
theorem equal_cons (x y : Sl) (L K : List ConL) (w : World) (hx : IsCons w x L) (hy : IsCons w y K) : Calls Tryz.prog 42 #[.slice x.A x.n x.c, .slice y.A y.n y.c, .func (.func 43) #[] #[]] w fun e w' => e = .returned (.bool (eqCons L K)) ∧ Below w.heap.size w w' := by
  have HX := Lib.hid hx
  have HY := Lib.hid hy
  have S1 := Lib.hid (eqCons_yes (L := L) (K := K))
  have S2 := Lib.hid (fun k => eqCons_no (L := L) (K := K) (k := k))
  have S3 := Lib.hid (eqCons_len (L := L) (K := K))
  rw [← hx.len, ← hy.len] at S1 S3
  rw [← hx.len] at S2
  have hxb := hx.big
  have e1 := eCons
  generalize eqCons L K = RES at S1 S2 S3 ⊢
  obtain ⟨xA, xn, xc⟩ := x
  obtain ⟨yA, yn, yc⟩ := y
  simp only at *
  clear hx hy
  by_cases hl : xn = yn
  · subst hl
    have hlb : (((xn : Nat) : Int) != ((xn : Nat) : Int)) = false := by simp
    have S1' := Lib.hid (S1.out rfl)
    clear S1 S3
    go_enter Tryz.func42, Tryz.ntmps42
    go_wp2_with fail
    go_loopw [17] (fun i wr => ∃ k : Nat, i = .int .i64 (k : Nat) ∧ k ≤ xn ∧ Hid (∀ j, j < k → eqCon (L.getD j noCon) (K.getD j noCon) = true) ∧ Hid (Below w.heap.size w wr)) (fun i _ => xn - (intOf i).toNat)
    case atStart => exact ⟨0, rfl, by omega, Lib.hid (fun j hj => absurd hj (by omega)), Lib.hid (Below.refl _ _)⟩
    case round =>
      obtain ⟨k, rfl, hk, H0, HB⟩ := hrel
      by_cases hlt : k < xn
      · obtain ⟨g1, o1, eA, hb1, hc1⟩ := HX.out.lies (by simp only; omega)
        obtain ⟨g2, o2, eB, hb2, hc2⟩ := HY.out.lies (by simp only; omega)
        simp only at eA eB
        subst eA eB
        obtain ⟨v1, hu1, hi1⟩ := hc1 k hlt
        obtain ⟨v2, hu2, hi2⟩ := hc2 k hlt
        have P1 : Hid (∀ j u, (v1.cells (L.getD k noCon).kind (L.getD k noCon).K)[j]? = some u → wr.cell? ⟨g1, o1 + k * 8 + j, none⟩ = some u) := Lib.hid (fun j u e => (HB.out.cell hb1).trans (hu1 j u e))
        have P2 : Hid (∀ o j u, (v2.cells (K.getD k noCon).kind (K.getD k noCon).K)[j]? = some u → (wr.alloc o).cell? ⟨g2, o2 + k * 8 + j, none⟩ = some u) := Lib.hid (fun o j u e => ((HB.out.alloc HB.out.size o).cell hb2).trans (hu2 j u e))
        have cS := Lib.hid (fun W (hW : Below w.heap.size w W) => equalCons_any v1 v2 (L.getD k noCon) (K.getD k noCon) W (hi1.below hW) (hi2.below hW))
        have HN : Hid (eqCon (L.getD k noCon) (K.getD k noCon) = true → ∀ j, j < k + 1 → eqCon (L.getD j noCon) (K.getD j noCon) = true) := Lib.hid (fun e j hj => by
          by_cases h : j < k
          · exact H0.out j h
          · obtain rfl : j = k := by omega
            exact e)
        have S2k := Lib.hid (S2.out k hlt)
        clear hc1 hc2 hb1 hb2 hu1 hu2 hi1 hi2
        generalize eqCon (L.getD k noCon) (K.getD k noCon) = T at cS HN S2k
        generalize (L.getD k noCon).kind = k1 at P1 cS
        generalize (L.getD k noCon).K = kk1 at P1 cS
        generalize (K.getD k noCon).kind = k2 at P2 cS
        generalize (K.getD k noCon).K = kk2 at P2 cS
        have x0 : wr.cell? ⟨g1, o1 + k * 8, none⟩ = some (.int .i64 k1) := P1.out 0 _ rfl
        have x1 : wr.cell? ⟨g1, o1 + k * 8 + 1, none⟩ = some (.slice v1.a.A v1.a.n v1.a.c) := P1.out 1 _ rfl
        have x2 : wr.cell? ⟨g1, o1 + k * 8 + 2, none⟩ = some (.slice v1.b.A v1.b.n v1.b.c) := P1.out 2 _ rfl
        have x3 : wr.cell? ⟨g1, o1 + k * 8 + 3, none⟩ = some (.slice v1.c.A v1.c.n v1.c.c) := P1.out 3 _ rfl
        have x4 : wr.cell? ⟨g1, o1 + k * 8 + 4, none⟩ = some (.slice v1.d.A v1.d.n v1.d.c) := P1.out 4 _ rfl
        have x5 : wr.cell? ⟨g1, o1 + k * 8 + 5, none⟩ = some (.slice v1.e.A v1.e.n v1.e.c) := P1.out 5 _ rfl
        have x6 : wr.cell? ⟨g1, o1 + k * 8 + 6, none⟩ = some (.int .i64 kk1) := P1.out 6 _ rfl
        have x7 : wr.cell? ⟨g1, o1 + k * 8 + 7, none⟩ = some (.slice v1.r.A v1.r.n v1.r.c) := P1.out 7 _ rfl
        have y0 : ∀ o, (wr.alloc o).cell? ⟨g2, o2 + k * 8, none⟩ = some (.int .i64 k2) := fun o => P2.out o 0 _ rfl
        have y1 : ∀ o, (wr.alloc o).cell? ⟨g2, o2 + k * 8 + 1, none⟩ = some (.slice v2.a.A v2.a.n v2.a.c) := fun o => P2.out o 1 _ rfl
        have y2 : ∀ o, (wr.alloc o).cell? ⟨g2, o2 + k * 8 + 2, none⟩ = some (.slice v2.b.A v2.b.n v2.b.c) := fun o => P2.out o 2 _ rfl
        have y3 : ∀ o, (wr.alloc o).cell? ⟨g2, o2 + k * 8 + 3, none⟩ = some (.slice v2.c.A v2.c.n v2.c.c) := fun o => P2.out o 3 _ rfl
        have y4 : ∀ o, (wr.alloc o).cell? ⟨g2, o2 + k * 8 + 4, none⟩ = some (.slice v2.d.A v2.d.n v2.d.c) := fun o => P2.out o 4 _ rfl
        have y5 : ∀ o, (wr.alloc o).cell? ⟨g2, o2 + k * 8 + 5, none⟩ = some (.slice v2.e.A v2.e.n v2.e.c) := fun o => P2.out o 5 _ rfl
        have y6 : ∀ o, (wr.alloc o).cell? ⟨g2, o2 + k * 8 + 6, none⟩ = some (.int .i64 kk2) := fun o => P2.out o 6 _ rfl
        have y7 : ∀ o, (wr.alloc o).cell? ⟨g2, o2 + k * 8 + 7, none⟩ = some (.slice v2.r.A v2.r.n v2.r.c) := fun o => P2.out o 7 _ rfl
        clear P1 P2
        have HB2 : Hid (∀ p q, Below w.heap.size w ((wr.alloc p).alloc q)) := Lib.hid (fun p q => (HB.out.alloc HB.out.size p).alloc (by have := HB.out.size; simp; omega) q)
        cases T
        · have HR := Lib.hid (S2k.out rfl)
          clear HN S2k
          go_wp2_with fail
          refine (cS.out _ (HB2.out _ _)).mono ?_
          rintro e w1 ⟨rfl, b1⟩
          have B1 := Lib.hid ((HB2.out _ _).trans (b1.mono (by have := HB.out.size; simp; omega)))
          clear b1
          go_wp2_with fail
          go_ret
          exact ⟨ret_bool HR.out.symm, B1.out⟩
        · have HN2 := Lib.hid (HN.out rfl)
          clear HN S2k
          go_wp2_with fail
          refine (cS.out _ (HB2.out _ _)).mono ?_
          rintro e w1 ⟨rfl, b1⟩
          have B1 := Lib.hid ((HB2.out _ _).trans (b1.mono (by have := HB.out.size; simp; omega)))
          clear b1
          go_wp2_with fail
          go_roundw
          case rel => exact ⟨k + 1, by go_num, by omega, HN2, B1⟩
          case measure => simp [intOf]; omega
      · have HR := Lib.hid (S1'.out (by have := H0.out; rwa [show k = xn by omega] at this))
        clear H0
        go_wp2_with fail
        go_ret
        exact ⟨ret_bool HR.out.symm, HB.out⟩
  · have hlb : (((xn : Nat) : Int) != ((yn : Nat) : Int)) = true := by simp; omega
    have HR := Lib.hid (S3.out hl)
    clear hl
    go_enter Tryz.func42, Tryz.ntmps42
    go_wp2_with fail
    go_ret
    exact ⟨ret_bool HR.out.symm, Below.refl _ _⟩
end Go.Proofs.YtgemgmdnnjaghaaGreatDoor
